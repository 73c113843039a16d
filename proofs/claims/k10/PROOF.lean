import PyProof.Rows.All
import Wide.All
import OpenK.AllK
import Wide.FinOn
import HandS.ForMost
import HandS.ForExc
import HandS.Wide
import HandS.IsInst
import HandS.ExcInit
import HandS.ExcField
import HandS.Conv
import HandS.TupLe
import HandS.TryOnly
import HandS.ExcIs
import HandS.Codes
import HandS.Zip
import HandS.Deep
import HandS.TupSets
import HandS.NoneIn
import KE.KExcIs
import KE.KSortTupG
import HandS.DictTup
import KE.GoesMore
import HandS.Sort
import HandS.Small
import HandS.Defaults
import HandS.ClsMeth
import PyProof.MinMaxWalk
import PyProof.WalkInts
import PyProof.SeqI3
import HandS.HotCalls
import HandS.CallLocal
import HandS.Walk
import PySem.Challenge.RW_joinedguests_k10_books_made_and_refused
set_option Elab.async false
set_option linter.all false
set_option maxRecDepth 100000
set_option maxHeartbeats 2000000
namespace J
open PySem PySem.Spec PyProof.Rows L2
def top (i : Nat) : Stmt := PySem.Challenge.pw_joinedguests_k10_books_made_and_refused.main.body.getD i (.Pass ⟨0, 0, 0, 0⟩)
/-! ### a def that may be called -/
structure Cal (P : Program) (w : World) (K : PySem.W.Frag) (mg : Str → Option Value) (base : Heap) (CX : CXT) (k : Nat) (x : Str) (f : Addr) (fd : FuncData) (ps : List Str) (sp : Sp) : Prop where
  F : FnOk P w K mg base CX k f fd ps sp
  m : mg x = some (.ref f)
  kp : PySem.W.keepIn K (.ref f) = true
  b : Binds K fd ps []
section
variable {X : Cx} {CX : CXT} {k j : Nat} {x : Str} {f : Addr} {fd : FuncData} {ps : List Str} {sp : Sp} {E : XK} {p pos : Pos} {e : Expr} {es : List Expr} {t : TA}
theorem pcal (c : Cal X.prog X.w X.K X.mg X.base CX k x f fd ps sp) (hr : Room j X.A) (hx : Passes CX X E) (ha : PA X (e :: es) t) (hk : k ≤ j := by decide) (hg : Gl X x := by rfl)
    (hdb : (x == ("__debug__" : Str)) = false := by decide) (he : starEach (e :: es) X.env = (false, eval e X.env) :: starEach es X.env := by rfl) (hpl : (backTo pos (starEach es X.env)).any (·.1) = false := by rfl) :
    PE X (.Call (.Name x p) (e :: es) [] pos) (tCall sp [] E t) := pe_call c.F (hr.mono hk) hg c.m c.kp c.b .nil hx ha hdb he hpl
end
/-! ### loops over enumerate -/
theorem for_enum {K : PySem.W.Frag} {a : Addr} {xs : List V} {g : TG} {tb : TS} {D : Ends} {σ : L2.St} {H : Hp} (Pv : Nat → L2.St → Hp → Prop) (h0 : Pv 0 σ H) (hl : ∀ i σ H, i ≤ xs.length → Pv i σ H → SqL K H a xs)
    (hs : ∀ i x σ H T, xs[i]? = some x → Pv i σ H → H T = none → g (.ref T) σ (upd H T (.tup [.int (i : Nat), x])) fun σ2 H2 => tb { D with nx := Pv (i + 1), ct := Pv (i + 1), bk := D.nx } σ2 H2) (hd : ∀ σ H, Pv xs.length σ H → D.nx σ H) :
    ∃ W : Nat → Nat → L2.St → Hp → Prop, (∃ m, W 0 m σ H) ∧ ∀ i m σ H, W i m σ H →
      ((Ite K a).stop i H ∧ D.nx σ H) ∨ ((Ite K a).go i H ∧ ∃ N : L2.St → Hp → Prop, (∀ σ' H', N σ' H' → ∃ m', m' < m ∧ W (i + 1) m' σ' H') ∧ ∀ x H', (Ite K a).yld i H x H' → g x σ H' fun σ2 H2 => tb { D with nx := N, ct := N, bk := D.nx } σ2 H2) := by
  refine ⟨fun i m s h => m + i = xs.length ∧ Pv i s h, ⟨xs.length, rfl, h0⟩, ?_⟩
  rintro i m σ H ⟨em, p⟩
  have hi : i ≤ xs.length := by omega
  have q := hl i σ H hi p
  rcases Nat.lt_or_ge i xs.length with hlt | hge
  · refine .inr ⟨⟨xs, xs[i], q, by simp [hlt]⟩, Pv (i + 1), fun σ' H' p' => ⟨m - 1, by omega, by omega, p'⟩, ?_⟩
    rintro x H' ⟨T, y, rfl, hT, rfl, hy⟩
    exact hs i y σ H T (hy xs q) p hT
  · have e : i = xs.length := by omega
    subst e
    exact .inl ⟨⟨xs, q, Nat.le_refl _⟩, hd σ H p⟩

/-! ### mix -/
abbrev s_Lmix : Stmt := top 28
theorem sc_Lmix : FnScope ["_law_number", "_law_turn", "_law_once", "_law_twice"] ["_law_number", "_law_turn"] (defScope s_Lmix) := ⟨rfl, rfl, rfl, by decide +kernel, rfl, by decide +kernel, by decide +kernel⟩
def spMix : Sp := fun vs H Q _ => ∃ n t : Int, vs = [.int n, .int t] ∧ ∀ r : Int, 0 ≤ r → Q (.int r) H
section
variable {P : Program} {w : World} {K : PySem.W.Frag} {mg : Str → Option Value} {base : Heap}
theorem ok_Lmix {f : Addr} {fd : FuncData} (F : Fun K "_law_mix" "_law_mix" s_Lmix f fd) (ni : mg "int" = none) : FnOk P w K mg base CX0 1 f fd ["_law_number", "_law_turn"] spMix := by
  refine F.ok sc_Lmix (fun vs H Q E h => ?_) (fun cdv A outer s H vs Q E hr h => ?_)
  · obtain ⟨n, t, rfl, _⟩ := h
    rfl
  · obtain ⟨n, t, rfl, k⟩ := h
    refine ⟨_, (pss_cons 
  (ps_set (i := 2) sc_Lmix.nd rfl (Or.inl rfl) (pe_op op_mod (pe_callTy call_int1 (by rfl) ni (by decide +kernel) (pa_cons (pe_op op_add (pe_op op_add (pe_op op_mul (pv 0) pe_int) (pe_op op_mul (pv 1) pe_int)) pe_int) pa_nil)) pe_int)) (pss_cons 
  (ps_set (i := 3) sc_Lmix.nd rfl (Or.inl rfl) (pe_op op_mod (pe_callTy call_int1 (by rfl) ni (by decide +kernel) (pa_cons (pe_op op_add (pe_op op_add (pe_op op_mul (pv 2) (pv 2)) (pe_op op_mul (pe_op op_fdiv (pv 2) pe_int) pe_int)) (pe_op op_mul (pv 1) pe_int)) pa_nil)) pe_int)) (pss_one 
  (ps_ret (pe_op op_fdiv (pe_op op_mod (pe_callTy call_int1 (by rfl) ni (by decide +kernel) (pa_cons (pe_op op_add (pe_op op_fdiv (pe_op op_mul (pv 3) (pv 3)) pe_int) (pv 2)) pa_nil)) pe_int) pe_int))))), ?_⟩
    refine ⟨_, rfl, _, _, rfl, rfl, .inr (by decide), _, rfl, _, _, rfl, rfl, .inr (by decide), _, _, rfl, rfl, _, _, rfl, rfl, .inl ⟨_, rfl, ?_⟩⟩
    refine ⟨_, _, rfl, rfl, (by show (0 : Int) < 2147483647; decide), ?_⟩
    have b1 := Int.emod_nonneg (n * 48271 + t * 16807 + 11) (b := 2147483647) (by decide)
    have b2 := Int.emod_lt_of_pos (n * 48271 + t * 16807 + 11) (b := 2147483647) (by decide)
    generalize (n * 48271 + t * 16807 + 11) % 2147483647 = o at b1 b2 ⊢
    refine ⟨_, rfl, _, rfl, _, _, rfl, rfl, .inl ⟨by omega, by omega⟩, ?_⟩
    refine ⟨_, rfl, _, _, rfl, rfl, ⟨by decide, by decide⟩, _, _, rfl, rfl, .inr (by decide), _, _, rfl, rfl, _, rfl, _, _, rfl, rfl, .inr (by decide), _, _, rfl, rfl, .inl ⟨_, rfl, ?_⟩⟩
    refine ⟨_, _, rfl, rfl, (by show (0 : Int) < 2147483399; decide), ?_⟩
    have b3 := Int.emod_nonneg (o * o + o / 127 * 40692 + t * 69621) (b := 2147483399) (by decide)
    have b4 := Int.emod_lt_of_pos (o * o + o / 127 * 40692 + t * 69621) (b := 2147483399) (by decide)
    generalize (o * o + o / 127 * 40692 + t * 69621) % 2147483399 = u at b3 b4 ⊢
    refine ⟨_, rfl, _, rfl, _, _, rfl, rfl, .inl ⟨by omega, by omega⟩, _, _, rfl, rfl, ⟨by decide, by decide⟩, _, rfl, _, _, rfl, rfl, .inl ⟨_, rfl, ?_⟩⟩
    refine ⟨_, _, rfl, rfl, (by show (0 : Int) < 2147483563; decide), _, _, rfl, rfl, ⟨by decide, by decide⟩, k _ ?_⟩
    have b5 := Int.emod_nonneg (u * u / 1009 + o) (b := 2147483563) (by decide)
    omega
end
end J

set_option Elab.async false
set_option linter.all false
set_option maxRecDepth 100000
set_option maxHeartbeats 2000000
namespace J
open PySem PySem.Spec PyProof.Rows L2
/-! ### the hand that is drawn from -/
/-- at h the hand stands: its cells at q -/
def Hand (H : Hp) (h q : Addr) : Prop := ∃ (cs : List Int) (i r t : Int), H h = some (.lst [.ref q, .int i, .int r, .int t]) ∧ H q = some (.lst (cs.map V.int)) ∧ q ≠ h ∧ 0 ≤ i ∧ 0 ≤ r ∧ 0 ≤ t ∧ t < 2147483629 ∧ (∀ c ∈ cs, 0 ≤ c) ∧ cs.length ≤ 63
/-- all that was tracked stands as it stood, but for what is at h -/
def But (h : Addr) (H H' : Hp) : Prop := ∀ b o, b ≠ h → H b = some o → H' b = some o
theorem But.refl (h : Addr) (H : Hp) : But h H H := fun _ _ _ e => e
theorem But.trans {h : Addr} {H H1 H2 : Hp} (a : But h H H1) (b : But h H1 H2) : But h H H2 := fun c o n e => b c o n (a c o n e)
theorem But.put {h : Addr} {H : Hp} {o : HO} : But h H (upd H h o) := fun c u n e => by rw [upd_ne n]; exact e
theorem But.new {h a : Addr} {H : Hp} {o : HO} (n : H a = none) : But h H (upd H a o) := fun c u _ e => by rw [upd_ne (ne_of_none e n)]; exact e
theorem But.same {h : Addr} {H H1 : Hp} (s : Same H H1) : But h H H1 := fun c o _ e => s c o e
theorem Hand.keep {H H' : Hp} {h q : Addr} (x : Hand H h q) (s : Same H H') : Hand H' h q := by
  obtain ⟨cs, i, r, t, e1, e2, z⟩ := x
  exact ⟨cs, i, r, t, s _ _ e1, s _ _ e2, z⟩
theorem Hand.put {H : Hp} {h q a : Addr} {o : HO} (x : Hand H h q) (n1 : h ≠ a) (n2 : q ≠ a) : Hand (upd H a o) h q := by
  obtain ⟨cs, i, r, t, e1, e2, z⟩ := x
  exact ⟨cs, i, r, t, by rw [upd_ne n1]; exact e1, by rw [upd_ne n2]; exact e2, z⟩
theorem Hand.new {H : Hp} {h q a : Addr} {o : HO} (x : Hand H h q) (n : H a = none) : Hand (upd H a o) h q :=
  x.keep fun c u e => by rw [upd_ne (ne_of_none e n)]; exact e
theorem yesT {A B : Hp → Prop} {σ : L2.St} {H : Hp} (h : A H) : tYes σ H (fun b H3 => if b = true then A H3 else B H3) := by
  show if true = true then A H else B H
  rw [if_pos rfl]
  exact h
abbrev s_Lhand : Stmt := top 29
theorem sc_Lhand : FnScope ["_law_script", "_law_total", "_law_k", "_law_cell"] ["_law_script"] (defScope s_Lhand) := ⟨rfl, rfl, rfl, by decide +kernel, rfl, by decide +kernel, by decide +kernel⟩
def spHand (K : PySem.W.Frag) : Sp := fun vs H Q _ => ∃ (a : Addr) (ns : List Int), vs = [.ref a] ∧ SqL K H a (ns.map V.int) ∧ ns.length ≤ 63 ∧ ∀ (H' : Hp) (h q : Addr), Same H H' → H h = none → H q = none → Hand H' h q → Q (.ref h) H'
section
variable {P : Program} {w : World} {K : PySem.W.Frag} {mg : Str → Option Value} {base : Heap}
theorem ok_Lhand {f : Addr} {fd : FuncData} (F : Fun K "_law_hand" "_law_hand" s_Lhand f fd) (ni : mg "int" = none) (na : mg "abs" = none) (ne : mg "enumerate" = none) : FnOk P w K mg base CX0 1 f fd ["_law_script"] (spHand K) := by
  refine F.ok sc_Lhand (fun vs H Q E h => ?_) (fun cdv A outer s H vs Q E hr h => ?_)
  · obtain ⟨a, ns, rfl, _⟩ := h
    rfl
  · obtain ⟨a, ns, rfl, hS, hn, k⟩ := h
    refine ⟨_, (pss_cons 
  (ps_set (i := 1) sc_Lhand.nd rfl (Or.inl rfl) pe_int) (pss_cons 
  (ps_for PassesOwn.never rfl (pi_enum (by rfl) ne (pa_cons (pv 0) pa_nil)) (pg_tup (by rfl) (pgs_cons (pg_name (i := 2) sc_Lhand.nd rfl (Or.inl rfl)) (pgs_cons (pg_name (i := 3) sc_Lhand.nd rfl (Or.inl rfl)) pgs_nil))) (pss_one 
    (ps_set (i := 1) sc_Lhand.nd rfl (Or.inl rfl) (pe_op op_mod (pe_callTy call_int1 (by rfl) ni (by decide +kernel) (pa_cons (pe_op op_add (pe_op op_mul (pv 1) pe_int) (pe_op op_mul (pe_callTy call_int1 (by rfl) ni (by decide +kernel) (pa_cons (pv 3) pa_nil)) (pe_op op_add (pv 2) pe_int))) pa_nil)) pe_int)))) (pss_one 
  (ps_ret (pe_lst (pa_cons (pe_lc (own := [("_law_cell", 3)]) (g := gName 3) (by rfl) sc_Lhand.nd (pi_list (pv 0)) (blkOk_by (own := [("_law_cell", 3)]) (N := ["_law_script", "_law_total", "_law_k", "_law_cell"]) (sc := defScope s_Lhand) (by decide +kernel)) (fun _ _ _ _ _ => pg_name (i := 3) sc_Lhand.nd rfl (Or.inl rfl)) (fun _ _ _ _ _ => pts_nil) (fun _ _ _ _ _ => (pe_callB call_abs (by rfl) na (by decide +kernel) (pa_cons (pe_callTy call_int1 (by rfl) ni (by decide +kernel) (pa_cons (pv 3) pa_nil)) pa_nil)))) (pa_cons pe_int (pa_cons pe_int (pa_cons (pv 1) pa_nil))))))))), ?_⟩
    refine ⟨_, rfl, a, _, rfl, hS, for_enum (K := K) (a := a) (xs := ns.map V.int) (fun i σ H' => ∃ (t : Int) (v2 v3 : Option V), σ = [some (.ref a), some (.int t), v2, v3] ∧ Same H H' ∧ 0 ≤ t ∧ t < 2147483629)
      ⟨0, none, none, rfl, Same.refl H, by decide, by decide⟩ (fun i σ H' _ ⟨_, _, _, _, S, _⟩ => S.seq hS) ?_ ?_⟩
    · rintro i x σ H' T hx ⟨t, v2, v3, rfl, S, t0, t1⟩ hT
      obtain ⟨c, rfl⟩ : ∃ c, x = V.int c := by
        rw [List.getElem?_map] at hx
        cases e : ns[i]? with
        | none => rw [e] at hx; cases hx
        | some c => rw [e] at hx; exact ⟨c, (Option.some.inj hx).symm⟩
      have hi : i < 63 := by
        have q := (List.getElem?_eq_some_iff.mp hx).1
        rw [List.length_map] at q
        omega
      refine ⟨T, _, rfl, SqT.of upd_same, rfl, _, _, rfl, _, _, rfl, rfl, ?_⟩
      refine ⟨_, rfl, _, _, rfl, rfl, .inr (by decide), _, rfl, .inl ⟨_, rfl, _, rfl, _, _, rfl, rfl, _, _, rfl, rfl, .inr ⟨by omega, by omega⟩, _, _, rfl, rfl, .inl ⟨_, rfl, _, _, rfl, rfl, (by show (0 : Int) < 2147483629; decide), ?_⟩⟩⟩
      refine ⟨_, _, _, rfl, fun b o e => ?_, Int.emod_nonneg _ (by decide), Int.emod_lt_of_pos _ (by decide)⟩
      rw [upd_ne (ne_of_none (S _ _ e) hT)]
      exact S _ _ e
    · rintro σ H' ⟨t, v2, v3, rfl, S, t0, t1⟩
      refine ⟨_, rfl, a, rfl, ⟨_, S.seq hS⟩, fun D hD => ?_⟩
      refine lc_list (K := K) (a := a) (xs := ns.map V.int) (fun i H1 => Same H H1 ∧ H D = none ∧ H1 D = some (.lst ((ns.take i).map fun c => V.int (if c < 0 then -c else c)))) ⟨fun b o e => ?_, S.free hD, upd_same⟩ (fun i H1 _ ⟨S1, _⟩ => S1.seq hS) ?_ ?_
      · rw [upd_ne (ne_of_none (S _ _ e) hD)]
        exact S _ _ e
      · rintro i x H1 hx ⟨S1, D0, e1⟩
        obtain ⟨c, hc, rfl⟩ : ∃ c, ns[i]? = some c ∧ x = V.int c := by
          rw [List.getElem?_map] at hx
          cases e : ns[i]? with
          | none => rw [e] at hx; cases hx
          | some c => rw [e] at hx; exact ⟨c, rfl, (Option.some.inj hx).symm⟩
        refine ⟨rfl, yesT ?_⟩
        refine ⟨_, rfl, .inl ⟨_, rfl, _, rfl, _, e1, ?_, fun b o e => ?_, D0, ?_⟩⟩
        · rw [List.length_map, List.length_take]
          exact small1000 (by omega)
        · rw [upd_ne (ne_of_none e D0)]
          exact S1 _ _ e
        · rw [upd_same, List.take_add_one, hc, List.map_append]
          rfl
      · rintro H1 ⟨S1, D0, e1⟩
        rw [List.length_map, List.take_length] at e1
        refine ⟨_, rfl, (by show 4 ≤ sizeLine; decide), fun p hp => k _ p D (fun b o e => ?_) (S1.free hp) D0 ?_⟩
        · rw [upd_ne (ne_of_none (S1 _ _ e) hp)]
          exact S1 _ _ e
        · refine ⟨ns.map fun c => if c < 0 then -c else c, 0, 0, t, upd_same, ?_, ne_of_none e1 hp, by decide, by decide, t0, t1, ?_, by rw [List.length_map]; exact hn⟩
          · rw [upd_ne (ne_of_none e1 hp), e1, List.map_map]
            rfl
          · intro c hc
            obtain ⟨z, _, rfl⟩ := List.mem_map.mp hc
            split <;> omega
end
end J

set_option Elab.async false
set_option linter.all false
set_option maxRecDepth 100000
set_option maxHeartbeats 2000000
namespace J
open PySem PySem.Spec PyProof.Rows L2
theorem ifD {c A B : Prop} [Decidable c] (h1 : c → A) (h2 : ¬ c → B) : if decide c = true then A else B := by
  by_cases h : c
  · rw [if_pos (decide_eq_true h)]
    exact h1 h
  · rw [if_neg (by simp [h])]
    exact h2 h
theorem v_int {a b : Int} (h : a = b) : V.int a = V.int b := by rw [h]
abbrev s_Ldraw : Stmt := top 30
theorem sc_Ldraw : FnScope ["_law_hand_here", "_law_many", "_law_cell", "_law_rest"] ["_law_hand_here", "_law_many"] (defScope s_Ldraw) := ⟨rfl, rfl, rfl, by decide +kernel, rfl, by decide +kernel, by decide +kernel⟩
def spDraw : Sp := fun vs H Q _ => ∃ (h q : Addr) (m : Int), vs = [.ref h, .int m] ∧ 0 < m ∧ m < 2 ^ 62 ∧ Hand H h q ∧ ∀ (v : Int) (H' : Hp), 0 ≤ v → v < m → But h H H' → Hand H' h q → Q (.int v) H'
theorem hand_put {H : Hp} {h q : Addr} {cs : List Int} {i r t : Int} (e2 : H q = some (.lst (cs.map V.int))) (nq : q ≠ h) (i0 : 0 ≤ i) (r0 : 0 ≤ r) (t0 : 0 ≤ t) (t1 : t < 2147483629) (hc : ∀ c ∈ cs, 0 ≤ c) (hl : cs.length ≤ 63) :
    Hand (upd H h (.lst [.ref q, .int i, .int r, .int t])) h q := ⟨cs, i, r, t, upd_same, by rw [upd_ne nq]; exact e2, nq, i0, r0, t0, t1, hc, hl⟩
theorem fmod_in {a m : Int} (h : 0 < m) : 0 ≤ a.fmod m ∧ a.fmod m < m := by
  rw [Int.fmod_eq_emod_of_nonneg a (by omega)]
  exact ⟨Int.emod_nonneg _ (by omega), Int.emod_lt_of_pos _ h⟩
section
variable {P : Program} {w : World} {K : PySem.W.Frag} {mg : Str → Option Value} {base : Heap}
theorem ok_Ldraw {f fM : Addr} {fd fdM : FuncData} (F : Fun K "_law_draw" "_law_draw" s_Ldraw f fd) (ni : mg "int" = none) (nl : mg "len" = none) (GM : Cal P w K mg base CX0 1 "_law_mix" fM fdM ["_law_number", "_law_turn"] spMix) : FnOk P w K mg base CX0 2 f fd ["_law_hand_here", "_law_many"] spDraw := by
  refine F.ok sc_Ldraw (fun vs H Q E h => ?_) (fun cdv A outer s H vs Q E hr h => ?_)
  · obtain ⟨n, q, t, rfl, _⟩ := h
    rfl
  · obtain ⟨h, q, m, rfl, m0, m1, ⟨cs, i, r, t, e1, e2, nq, i0, r0, t0, t1, hc, hl⟩, k⟩ := h
    refine ⟨_, (C8.pss_cut 
  (ps_if (PW.pt (pw_and (pt_cmpR op_eq (pe_ix ix_list (pv 0) pe_int (fun _ _ => rfl)) pe_int (nomark _)) (pw_and1 (pt_cmpR op_lt (pe_ix ix_list (pv 0) pe_int (fun _ _ => rfl)) (pe_callB call_len_seq (by rfl) nl PySem.boot_len (pa_cons (pe_ix ix_list (pv 0) pe_int (fun _ _ => rfl)) pa_nil)) (nomark _))))) (pss_cons 
    (ps_set (i := 2) sc_Ldraw.nd rfl (Or.inl rfl) (pe_ix ix_list (pe_ix ix_list (pv 0) pe_int (fun _ _ => rfl)) (pe_ix ix_list (pv 0) pe_int (fun _ _ => rfl)) (fun _ _ => rfl))) (pss_cons 
    (ps_asg (pe_op op_add (pe_ix ix_list (pv 0) pe_int (fun _ _ => rfl)) pe_int) (pg_sub (pv 0) pe_int set_list)) (pss_cons 
    (ps_if (pt_cmpR op_lt (pv 2) (pe_op op_pow pe_int pe_int) (nomark _)) (pss_one 
      (ps_ret (pe_op op_modN (pe_callTy call_int1 (by rfl) ni (by decide +kernel) (pa_cons (pcal GM hr pass0 (pa_cons (pe_op op_mod (pe_callTy call_int1 (by rfl) ni (by decide +kernel) (pa_cons (pv 2) pa_nil)) pe_int) (pa_cons (pe_ix ix_list (pv 0) pe_int (fun _ _ => rfl)) pa_nil))) pa_nil)) (pv 1)))) pss_nil) (pss_one 
    (ps_asg (pv 2) (pg_sub (pv 0) pe_int set_list)))))) pss_nil) (pss_cons 
  (ps_if (pt_cmpR op_gt (pe_ix ix_list (pv 0) pe_int (fun _ _ => rfl)) pe_int (nomark _)) (pss_cons 
    (ps_set (i := 3) sc_Ldraw.nd rfl (Or.inl rfl) (pe_ix ix_list (pv 0) pe_int (fun _ _ => rfl))) (pss_cons 
    (ps_asg (pe_op op_fdivW (pv 3) (pv 1)) (pg_sub (pv 0) pe_int set_list)) (pss_one 
    (ps_ret (pe_op op_modN (pe_callTy call_int1 (by rfl) ni (by decide +kernel) (pa_cons (pv 3) pa_nil)) (pv 1)))))) pss_nil) (pss_cons 
  (ps_asg (pe_op op_mod (pe_callTy call_int1 (by rfl) ni (by decide +kernel) (pa_cons (pe_op op_add (pe_ix ix_list (pv 0) pe_int (fun _ _ => rfl)) pe_int) pa_nil)) pe_int) (pg_sub (pv 0) pe_int set_list)) (pss_one 
  (ps_ret (pe_op op_modN (pe_callTy call_int1 (by rfl) ni (by decide +kernel) (pa_cons (pcal GM hr pass0 (pa_cons (pe_ix ix_list (pv 0) pe_int (fun _ _ => rfl)) (pa_cons (pe_ix ix_list (pv 0) pe_int (fun _ _ => rfl)) pa_nil))) pa_nil)) (pv 1))))))), ?_⟩
    refine ⟨fun σ' H' => ∃ (v2 : Option V) (i r t : Int), σ' = [some (.ref h), some (.int m), v2, none] ∧ But h H H' ∧ H' h = some (.lst [.ref q, .int i, .int r, .int t]) ∧ 0 ≤ i ∧ 0 ≤ r ∧ 0 ≤ t ∧ t < 2147483629, ?_, ?_⟩
    · -- hand[2] == 0
      refine ⟨_, rfl, _, _, _, _, rfl, rfl, SqL.of e1, rfl, rfl, _, rfl, ?_⟩
      refine ifD (fun c1 => ?_) (fun c1 => iteF ⟨none, i, r, t, rfl, But.refl h H, e1, i0, r0, t0, t1⟩)
      refine ⟨_, rfl, _, _, _, _, rfl, rfl, SqL.of e1, rfl, _, rfl, _, _, _, _, rfl, rfl, SqL.of e1, rfl, _, _, rfl, .inl (SqL.of e2), _, _, rfl, rfl, _, rfl, ?_⟩
      refine ifD (fun c2 => ?_) (fun c2 => ⟨none, i, r, t, rfl, But.refl h H, e1, i0, r0, t0, t1⟩)
      rw [List.length_map] at c2
      have hi : i.toNat < cs.length := by omega
      have hic : ((i.toNat : Nat) : Int) = i := Int.toNat_of_nonneg i0
      have hat : (cs.map V.int)[i.toNat]? = some (V.int cs[i.toNat]) := by
        rw [List.getElem?_map, List.getElem?_eq_getElem hi]
        rfl
      have cp : 0 ≤ cs[i.toNat] := hc _ (List.getElem_mem hi)
      generalize cs[i.toNat] = c at hat cp
      refine ⟨_, rfl, _, _, _, _, rfl, rfl, SqL.of e1, rfl, _, rfl, _, _, _, _, rfl, rfl, SqL.of e1, rfl, _, _, _, _, rfl, rfl, SqL.of e2, at_of hic.symm hat, ?_⟩
      refine ⟨_, rfl, _, _, _, _, rfl, rfl, SqL.of e1, rfl, _, _, rfl, rfl, _, rfl, _, _, _, _, rfl, rfl, e1, rfl, ?_⟩
      have e3 : (upd H h (.lst [.ref q, .int (i + 1), .int r, .int t])) h = some (.lst [.ref q, .int (i + 1), .int r, .int t]) := upd_same
      refine ⟨_, rfl, _, _, rfl, rfl, ⟨by decide, by decide, by decide⟩, _, _, rfl, rfl, _, rfl, ?_⟩
      refine ifD (fun c3 => ?_) (fun c3 => ?_)
      · refine ⟨_, rfl, .inl ⟨_, rfl, _, _, rfl, rfl, (by show (0 : Int) < 2147483647; decide), _, rfl, _, _, _, _, rfl, rfl, SqL.of e3, rfl, _, _, rfl, fun z z0 => .inl ⟨_, rfl, _, rfl, _, _, rfl, rfl, (by show m ≠ 0; omega), ?_⟩⟩⟩
        exact k _ _ (fmod_in m0).1 (fmod_in m0).2 But.put (hand_put e2 nq (by omega) r0 t0 t1 hc hl)
      · refine ⟨_, rfl, _, rfl, _, _, _, _, rfl, rfl, e3, rfl, ?_⟩
        exact ⟨_, i + 1, c, t, rfl, But.put.trans But.put, upd_same, by omega, cp, t0, t1⟩
    · rintro σ' H' ⟨v2, i, r, t, rfl, B1, e1, i0, r0, t0, t1⟩
      have e2' := B1 _ _ nq e2
      refine ⟨_, rfl, _, _, _, _, rfl, rfl, SqL.of e1, rfl, _, _, rfl, rfl, _, rfl, ?_⟩
      refine ifD (fun c1 => ?_) (fun c1 => ?_)
      · refine ⟨_, rfl, _, _, _, _, rfl, rfl, SqL.of e1, rfl, _, rfl, _, rfl, _, _, rfl, rfl, wide_div (b := 62) m0 (by omega) (by decide) (by decide), _, rfl, _, _, _, _, rfl, rfl, e1, rfl, ?_⟩
        refine ⟨_, rfl, .inl ⟨_, rfl, _, rfl, _, _, rfl, rfl, (by show m ≠ 0; omega), ?_⟩⟩
        exact k _ _ (fmod_in m0).1 (fmod_in m0).2 (B1.trans But.put) (hand_put e2' nq i0 (Int.ediv_nonneg r0 (by omega)) t0 t1 hc hl)
      · refine ⟨_, rfl, _, _, _, _, rfl, rfl, SqL.of e1, rfl, _, _, rfl, rfl, .inl ⟨_, rfl, _, _, rfl, rfl, (by show (0 : Int) < 2147483629; decide), _, rfl, _, _, _, _, rfl, rfl, e1, rfl, ?_⟩⟩
        have e3 : (upd H' h (.lst [.ref q, .int i, .int r, .int ((t + 1) % 2147483629)])) h = some (.lst [.ref q, .int i, .int r, .int ((t + 1) % 2147483629)]) := upd_same
        refine ⟨_, rfl, _, _, _, _, rfl, rfl, SqL.of e3, rfl, _, rfl, _, _, _, _, rfl, rfl, SqL.of e3, rfl, _, _, rfl, fun z z0 => .inl ⟨_, rfl, _, rfl, _, _, rfl, rfl, (by show m ≠ 0; omega), ?_⟩⟩
        exact k _ _ (fmod_in m0).1 (fmod_in m0).2 (B1.trans But.put) (hand_put e2' nq i0 r0 (Int.emod_nonneg _ (by decide)) (Int.emod_lt_of_pos _ (by decide)) hc hl)
end
end J

set_option Elab.async false
set_option linter.all false
set_option maxRecDepth 100000
set_option maxHeartbeats 2000000
namespace J
open PySem PySem.Spec PyProof.Rows L2
/-! ### things of many kinds -/
/-- the shape of a thing -/
inductive Sh where
  | sc (v : V) | dk | lst (xs : List V) | tup (xs : List V)
def isSc : V → Bool
  | .non => true | .bl _ => true | .int _ => true | .str _ => true | _ => false
def Is (H : Hp) (x : V) : Sh → Prop
  | .sc v => x = v ∧ isSc v = true
  | .dk => ∃ a kvs, x = .ref a ∧ H a = some (.dK kvs)
  | .lst xs => ∃ a, x = .ref a ∧ H a = some (.lst xs)
  | .tup xs => ∃ a, x = .ref a ∧ H a = some (.tup xs)
def Sh.int : Sh → Bool
  | .sc (.int _) => true | _ => false
def Sh.bl : Sh → Bool
  | .sc (.bl _) => true | _ => false
def Sh.isL : Sh → Bool
  | .lst _ => true | _ => false
def Sh.isT : Sh → Bool
  | .tup _ => true | _ => false
theorem Is.keep {H H' : Hp} {x : V} {s : Sh} (h : Is H x s) (S : Same H H') : Is H' x s := by
  cases s with
  | sc v => exact h
  | dk => obtain ⟨a, kvs, e, q⟩ := h; exact ⟨a, kvs, e, S _ _ q⟩
  | lst xs => obtain ⟨a, e, q⟩ := h; exact ⟨a, e, S _ _ q⟩
  | tup xs => obtain ⟨a, e, q⟩ := h; exact ⟨a, e, S _ _ q⟩
theorem kt_NoneType_int : kitB "NoneType" "int" = some false := by decide +kernel
theorem kt_NoneType_bool : kitB "NoneType" "bool" = some false := by decide +kernel
theorem kt_NoneType_list : kitB "NoneType" "list" = some false := by decide +kernel
theorem kt_NoneType_tuple : kitB "NoneType" "tuple" = some false := by decide +kernel
theorem kt_bool_int : kitB "bool" "int" = some true := by decide +kernel
theorem kt_bool_bool : kitB "bool" "bool" = some true := by decide +kernel
theorem kt_bool_list : kitB "bool" "list" = some false := by decide +kernel
theorem kt_bool_tuple : kitB "bool" "tuple" = some false := by decide +kernel
theorem kt_int_int : kitB "int" "int" = some true := by decide +kernel
theorem kt_int_bool : kitB "int" "bool" = some false := by decide +kernel
theorem kt_int_list : kitB "int" "list" = some false := by decide +kernel
theorem kt_int_tuple : kitB "int" "tuple" = some false := by decide +kernel
theorem kt_str_int : kitB "str" "int" = some false := by decide +kernel
theorem kt_str_bool : kitB "str" "bool" = some false := by decide +kernel
theorem kt_str_list : kitB "str" "list" = some false := by decide +kernel
theorem kt_str_tuple : kitB "str" "tuple" = some false := by decide +kernel
theorem kt_dict_int : kitB "dict" "int" = some false := by decide +kernel
theorem kt_dict_bool : kitB "dict" "bool" = some false := by decide +kernel
theorem kt_dict_list : kitB "dict" "list" = some false := by decide +kernel
theorem kt_dict_tuple : kitB "dict" "tuple" = some false := by decide +kernel
theorem kt_list_int : kitB "list" "int" = some false := by decide +kernel
theorem kt_list_bool : kitB "list" "bool" = some false := by decide +kernel
theorem kt_list_list : kitB "list" "list" = some true := by decide +kernel
theorem kt_list_tuple : kitB "list" "tuple" = some false := by decide +kernel
theorem kt_tuple_int : kitB "tuple" "int" = some false := by decide +kernel
theorem kt_tuple_bool : kitB "tuple" "bool" = some false := by decide +kernel
theorem kt_tuple_list : kitB "tuple" "list" = some false := by decide +kernel
theorem kt_tuple_tuple : kitB "tuple" "tuple" = some true := by decide +kernel
theorem Is.ty {K : PySem.W.Frag} {H : Hp} {x : V} {s : Sh} (h : Is H x s) : ∃ t : String, TyX K H x (.type t) ∧ kitB t "int" = some (s.int || s.bl) ∧ kitB t "bool" = some s.bl ∧ kitB t "list" = some s.isL ∧ kitB t "tuple" = some s.isT := by
  cases s with
  | sc v =>
    obtain ⟨rfl, e⟩ := h
    cases x with
    | non => exact ⟨_, .base .non, kt_NoneType_int, kt_NoneType_bool, kt_NoneType_list, kt_NoneType_tuple⟩
    | bl b => exact ⟨_, .base (.bl b), kt_bool_int, kt_bool_bool, kt_bool_list, kt_bool_tuple⟩
    | int b => exact ⟨_, .base (.int b), kt_int_int, kt_int_bool, kt_int_list, kt_int_tuple⟩
    | str b => exact ⟨_, .base (.str b), kt_str_int, kt_str_bool, kt_str_list, kt_str_tuple⟩
    | byt b => cases e
    | flt b => cases e
    | ref b => cases e
    | ty b => cases e
  | dk => obtain ⟨a, kvs, rfl, q⟩ := h; exact ⟨_, .base (.dK q), kt_dict_int, kt_dict_bool, kt_dict_list, kt_dict_tuple⟩
  | lst xs => obtain ⟨a, rfl, q⟩ := h; exact ⟨_, .base (.lst q), kt_list_int, kt_list_bool, kt_list_list, kt_list_tuple⟩
  | tup xs => obtain ⟨a, rfl, q⟩ := h; exact ⟨_, .base (.tup q), kt_tuple_int, kt_tuple_bool, kt_tuple_list, kt_tuple_tuple⟩
/-- isinstance(x, (list, tuple)) -/
theorem kit_seq {K : PySem.W.Frag} {t : String} {a b : Bool} (h1 : kitB t "list" = some a) (h2 : kitB t "tuple" = some b) : PySem.W.kitAny K (.type t) [.type "list", .type "tuple"] = some (a || b) :=
  kitAny_cons (kit_ty h1) (fun e => by subst e; exact kitAny_cons (kit_ty h2) (fun e => by subst e; exact kitAny_nil) (fun e => by subst e; rfl)) (fun e => by subst e; rfl)
def wholeB (x : V) (lo hi : Int) : Bool := match x with
  | .int i => decide (lo ≤ i) && decide (i ≤ hi)
  | _ => false

abbrev s_is_whole : Stmt := top 10
theorem sc_is_whole : FnScope ["thing", "low", "high"] ["thing", "low", "high"] (defScope s_is_whole) := ⟨rfl, rfl, rfl, by decide +kernel, rfl, by decide +kernel, by decide +kernel⟩
def spWhole : Sp := fun vs H Q _ => ∃ (x : V) (s : Sh) (lo hi : Int), vs = [x, .int lo, .int hi] ∧ Is H x s ∧ Q (.bl (wholeB x lo hi)) H
theorem if_tr {A B : Prop} {c : Bool} (e : c = true) (h : A) : if c = true then A else B := by rw [if_pos e]; exact h
theorem if_fa {A B : Prop} {c : Bool} (e : c = false) (h : B) : if c = true then A else B := by rw [if_neg (by simp [e])]; exact h
section
variable {P : Program} {w : World} {K : PySem.W.Frag} {mg : Str → Option Value} {base : Heap}
theorem ok_is_whole {f : Addr} {fd : FuncData} (F : Fun K "is_whole" "is_whole" s_is_whole f fd) (ns : mg "isinstance" = none) (ni : mg "int" = none) (nb : mg "bool" = none) : FnOk P w K mg base CX0 1 f fd ["thing", "low", "high"] spWhole := by
  refine F.ok sc_is_whole (fun vs H Q E h => ?_) (fun cdv A outer s H vs Q E hr h => ?_)
  · obtain ⟨x, s, lo, hi, rfl, _⟩ := h
    rfl
  · obtain ⟨x, sh, lo, hi, rfl, hx, k⟩ := h
    refine ⟨_, (pss_one 
  (ps_ret (pe_and (pe_callB call_isi (by rfl) ns (by decide +kernel) (pa_cons (pv 0) (pa_cons (pe_bltn (by rfl) ni (by decide +kernel) (v := .ty "int") rfl) pa_nil))) (pe_and (pe_not (pe_callB call_isi (by rfl) ns (by decide +kernel) (pa_cons (pv 0) (pa_cons (pe_bltn (by rfl) nb (by decide +kernel) (v := .ty "bool") rfl) pa_nil)))) (pe_one (pe_chain op_le op_le (pv 1) (pv 0) (pv 2))))))), ?_⟩
    obtain ⟨t, ht, k1, k2, _⟩ := hx.ty (K := K)
    refine ⟨_, rfl, _, _, _, _, _, rfl, .ty "int", ht, kit_ty k1, _, rfl, ?_⟩
    cases e1 : sh.int with
    | true =>
      obtain ⟨i, rfl⟩ : ∃ i, sh = .sc (.int i) := by
        cases sh with
        | sc v => cases v <;> first | exact ⟨_, rfl⟩ | cases e1
        | _ => cases e1
      obtain ⟨rfl, _⟩ := hx
      refine if_tr rfl ?_
      refine ⟨_, rfl, _, _, _, _, _, rfl, .ty "bool", ht, kit_ty k2, _, rfl, _, rfl, ?_⟩
      refine if_tr rfl ?_
      refine ⟨_, rfl, _, rfl, _, _, rfl, rfl, _, rfl, ?_⟩
      by_cases c : lo ≤ i
      · refine if_tr (decide_eq_true c) ⟨_, rfl, _, _, rfl, rfl, ?_⟩
        have e : wholeB (.int i) lo hi = decide (i ≤ hi) := by
          show (decide (lo ≤ i) && decide (i ≤ hi)) = _
          rw [decide_eq_true c, Bool.true_and]
        rw [e] at k
        exact k
      · refine if_fa (decide_eq_false c) ?_
        have e : wholeB (.int i) lo hi = false := by
          show (decide (lo ≤ i) && decide (i ≤ hi)) = _
          rw [decide_eq_false c, Bool.false_and]
        rw [e] at k
        exact k
    | false =>
      have e : wholeB x lo hi = false := by
        cases sh with
        | sc v =>
          obtain ⟨rfl, _⟩ := hx
          cases x <;> first | rfl | cases e1
        | dk => obtain ⟨a, _, rfl, _⟩ := hx; rfl
        | lst => obtain ⟨a, rfl, _⟩ := hx; rfl
        | tup => obtain ⟨a, rfl, _⟩ := hx; rfl
      rw [e] at k
      cases e2 : sh.bl with
      | true =>
        refine if_tr rfl ?_
        refine ⟨_, rfl, _, _, _, _, _, rfl, .ty "bool", ht, kit_ty (e2 ▸ k2), _, rfl, _, rfl, ?_⟩
        exact if_fa rfl k
      | false => exact if_fa rfl k
abbrev s_is_sequence : Stmt := top 11
theorem sc_is_sequence : FnScope ["thing"] ["thing"] (defScope s_is_sequence) := ⟨rfl, rfl, rfl, by decide +kernel, rfl, by decide +kernel, by decide +kernel⟩
def spSeq : Sp := fun vs H Q _ => ∃ (x : V) (s : Sh), vs = [x] ∧ Is H x s ∧ ∀ H', Same H H' → Q (.bl (s.isL || s.isT)) H'
theorem new_same {H : Hp} {p : Addr} {o : HO} (n : H p = none) : Same H (upd H p o) := fun b u e => by
  rw [upd_ne (ne_of_none e n)]
  exact e
/-- the test isinstance(x, (list, tuple)) -/
theorem isi_seq {K : PySem.W.Frag} {H : Hp} {x : V} {s : Sh} {Q : VK} (hx : Is H x s) (k : ∀ H', Same H H' → Q (.bl (s.isL || s.isT)) H') : 2 ≤ sizeLine ∧ ∀ p, H p = none → rIsiT K [x, .ref p] (upd H p (.tup [.ty "list", .ty "tuple"])) Q := by
  refine ⟨by decide, fun p hp => ?_⟩
  have S : Same H (upd H p (.tup [.ty "list", .ty "tuple"])) := new_same hp
  obtain ⟨t, ht, _, _, k1, k2⟩ := (hx.keep S).ty (K := K)
  exact ⟨_, _, _, _, _, _, rfl, upd_same, .cons (.ty "list") (.cons (.ty "tuple") .nil), ht, kit_seq k1 k2, k _ S⟩
theorem ok_is_sequence {f : Addr} {fd : FuncData} (F : Fun K "is_sequence" "is_sequence" s_is_sequence f fd) (ns : mg "isinstance" = none) (nl : mg "list" = none) (nt : mg "tuple" = none) : FnOk P w K mg base CX0 1 f fd ["thing"] spSeq := by
  refine F.ok sc_is_sequence (fun vs H Q E h => ?_) (fun cdv A outer s H vs Q E hr h => ?_)
  · obtain ⟨x, s, rfl, _⟩ := h
    rfl
  · obtain ⟨x, sh, rfl, hx, k⟩ := h
    refine ⟨_, (pss_one 
  (ps_ret (pe_callB call_isiT (by rfl) ns (by decide +kernel) (pa_cons (pv 0) (pa_cons (pe_tup (pa_cons (pe_bltn (by rfl) nl (by decide +kernel) (v := .ty "list") rfl) (pa_cons (pe_bltn (by rfl) nt (by decide +kernel) (v := .ty "tuple") rfl) pa_nil))) pa_nil))))), ?_⟩
    exact ⟨_, rfl, isi_seq hx k⟩
end
end J

set_option Elab.async false
set_option linter.all false
set_option maxRecDepth 100000
set_option maxHeartbeats 2000000
namespace J
open PySem PySem.Spec PyProof.Rows L2
/-! ### own errors with one field -/
def spXI (C : Addr) (f : Str) : Sp := fun vs H Q _ => ∃ (a : Addr) (v : V), vs = [.ref a, v] ∧ H a = some (exo a C none) ∧ ∀ dx, H dx = none → dx ≠ a → Q .non (upd (upd H dx (exd dx [(f, v)])) a (exo a C (some dx)))
structure Ex (P : Program) (w : World) (K : PySem.W.Frag) (mg : Str → Option Value) (base : Heap) (x fld : Str) (C fI : Addr) (fd : FuncData) (ps : List Str) : Prop where
  o : OexC K C
  i : PySem.W.findIn K (.ref C) "__init__" = some (some (.ref fI))
  t : PySem.W.typeIn K (.ref fI) = some (.type "function")
  F : FnOk P w K mg base CX0 1 fI fd ps (spXI C fld)
  b : Binds K fd ps []
  m : mg x = some (.ref C)
  xf : XfC K C
  no : PySem.W.findIn K (.ref C) fld = some none
  te : PySem.W.exmOne K (.ref C) (.ref C) = some true
/-- how an error is told: new, with its field -/
def Tells (H : Hp) (C : Addr) (f : Str) (v : V) (E : XK) : Prop := ∀ d H', H d = none → Same H H' → H' d = some (.xd [(f, v)]) → E (.ref C) (some d) H'
theorem mkO_of {C : Addr} {f : Str} {v : V} {H : Hp} {Q : XK} (h : Tells H C f v Q) : [v].length ≤ 1000 ∧ ∀ a, H a = none → spXI C f (.ref a :: ([v] ++ [])) (upd H a (exo a C none))
    (fun u H2 => u = .non ∧ ∃ (d : Addr) (fs : List (Str × V)), H2 a = some (exo a C (some d)) ∧ H2 d = some (exd d fs) ∧ H d = none ∧ Q (.ref C) (some d) (upd (del H2 a) d (.xd fs))) (fun _ _ _ => False) := by
  refine ⟨(by show 1 ≤ 1000; decide), fun a ha => ⟨a, v, rfl, upd_same, fun dx hdx ne => ⟨rfl, dx, [(f, v)], upd_same, ?_, ?_, ?_⟩⟩⟩
  · rw [upd_ne ne, upd_same]
  · rw [upd_ne ne] at hdx
    exact hdx
  · rw [upd_ne ne] at hdx
    refine h _ _ hdx (fun b o e => ?_) upd_same
    rw [upd_ne (ne_of_none e hdx), del_ne (ne_of_none e ha), upd_ne (ne_of_none e ha), upd_ne (ne_of_none e hdx), upd_ne (ne_of_none e ha)]
    exact e
abbrev s_BadTies_init : Stmt := inClass (top 3) 0
abbrev s_NoTie_init : Stmt := inClass (top 4) 0
theorem sc_BadTies_init : FnScope ["self", "what"] ["self", "what"] (defScope s_BadTies_init) := ⟨rfl, rfl, rfl, by decide +kernel, rfl, by decide +kernel, by decide +kernel⟩
theorem sc_NoTie_init : FnScope ["self", "tie"] ["self", "tie"] (defScope s_NoTie_init) := ⟨rfl, rfl, rfl, by decide +kernel, rfl, by decide +kernel, by decide +kernel⟩
section
variable {P : Program} {w : World} {K : PySem.W.Frag} {mg : Str → Option Value} {base : Heap}
theorem ok_BadTies_init {f C : Addr} {fd : FuncData} (F : Fun K "__init__" "BadTies.__init__" s_BadTies_init f fd) (o : OexC K C) (no : PySem.W.findIn K (.ref C) "what" = some none) : FnOk P w K mg base CX0 1 f fd ["self", "what"] (spXI C "what") := by
  refine F.ok sc_BadTies_init (fun vs H Q E h => ?_) (fun cdv A outer s H vs Q E hr h => ?_)
  · obtain ⟨x, s, rfl, _⟩ := h
    rfl
  · obtain ⟨a, v, rfl, ha, k⟩ := h
    refine ⟨_, pss_one (ps_ost (pv 0) (pv 1)), ?_⟩
    exact ⟨_, rfl, _, rfl, a, C, rfl, o, no, .inl ⟨ha, k⟩⟩
theorem ok_NoTie_init {f C : Addr} {fd : FuncData} (F : Fun K "__init__" "NoTie.__init__" s_NoTie_init f fd) (o : OexC K C) (no : PySem.W.findIn K (.ref C) "tie" = some none) : FnOk P w K mg base CX0 1 f fd ["self", "tie"] (spXI C "tie") := by
  refine F.ok sc_NoTie_init (fun vs H Q E h => ?_) (fun cdv A outer s H vs Q E hr h => ?_)
  · obtain ⟨x, s, rfl, _⟩ := h
    rfl
  · obtain ⟨a, v, rfl, ha, k⟩ := h
    refine ⟨_, pss_one (ps_ost (pv 0) (pv 1)), ?_⟩
    exact ⟨_, rfl, _, rfl, a, C, rfl, o, no, .inl ⟨ha, k⟩⟩
end
/-! ### Ties -/
theorem bm_ : ¬ (("backs" : Str) = "many") := by decide +kernel
theorem mb_ : ¬ (("many" : Str) = "backs") := by decide +kernel
def tf (t : Addr) (n : Int) : List (Str × V) := putF "many" (.int n) (putF "backs" (.ref t) [])
theorem tf_backs (t : Addr) (n : Int) : (tf t n).lookup ("backs" : Str) = some (.ref t) := by
  unfold tf
  rw [lookup_putF, if_neg bm_, lookup_putF, if_pos rfl]
theorem tf_many (t : Addr) (n : Int) : (tf t n).lookup ("many" : Str) = some (.int n) := by
  unfold tf
  rw [lookup_putF, if_pos rfl]
theorem tf_no (t : Addr) (n : Int) {m : Str} (h1 : ¬ m = "many") (h2 : ¬ m = "backs") : (tf t n).lookup m = none := by
  unfold tf
  rw [lookup_putF, if_neg h1, lookup_putF, if_neg h2]
  all_goals rfl
def TiesAt (C : Addr) (H : Hp) (x : Addr) (ns : List Int) : Prop := ∃ dx t, H x = some (.ins C dx (tf t (ns.length : Nat))) ∧ H t = some (.tup (ns.map V.int))
theorem TiesAt.keep {C : Addr} {H H' : Hp} {x : Addr} {ns : List Int} (h : TiesAt C H x ns) (S : Same H H') : TiesAt C H' x ns := by
  obtain ⟨dx, t, a, b⟩ := h
  exact ⟨dx, t, S _ _ a, S _ _ b⟩
/-- the class Ties in the written part -/
structure TiC (K : PySem.W.Frag) (C : Addr) : Prop where
  cl : Cls K C
  nB : NoAttr K C "backs"
  nM : NoAttr K C "many"
structure Mt (P : Program) (w : World) (K : PySem.W.Frag) (mg : Str → Option Value) (base : Heap) (CX : CXT) (k : Nat) (C : Addr) (m : Str) (f : Addr) (fd : FuncData) (ps : List Str) (sp : Sp) : Prop where
  M : Meth K C m f
  F : FnOk P w K mg base CX k f fd ps sp
  b : Binds K fd ps []
abbrev s_Ties_has : Stmt := inClass (top 13) 2
abbrev s_Ties_back : Stmt := inClass (top 13) 3
theorem sc_Ties_has : FnScope ["self", "thing"] ["self", "thing"] (defScope s_Ties_has) := ⟨rfl, rfl, rfl, by decide +kernel, rfl, by decide +kernel, by decide +kernel⟩
theorem sc_Ties_back : FnScope ["self", "tie"] ["self", "tie"] (defScope s_Ties_back) := ⟨rfl, rfl, rfl, by decide +kernel, rfl, by decide +kernel, by decide +kernel⟩
def tieB (ns : List Int) (x : V) : Bool := wholeB x 0 ((ns.length : Nat) - 1)
def spHas (C : Addr) : Sp := fun vs H Q _ => ∃ (x : Addr) (ns : List Int) (v : V) (s : Sh), vs = [.ref x, v] ∧ TiesAt C H x ns ∧ Is H v s ∧ Q (.bl (tieB ns v)) H
def spBack (C CN : Addr) : Sp := fun vs H Q E => ∃ (x : Addr) (ns : List Int) (v : V) (s : Sh), vs = [.ref x, v] ∧ TiesAt C H x ns ∧ Is H v s ∧ (∀ (i : Nat) (b : Int), v = .int (i : Nat) → ns[i]? = some b → Q (.int b) H) ∧ (tieB ns v = false → Tells H CN "tie" v E)
def spOneWay (C CN : Addr) : Sp := fun vs H Q E => ∃ (x : Addr) (ns : List Int) (v : V) (s : Sh), vs = [.ref x, v] ∧ TiesAt C H x ns ∧ Is H v s ∧ (∀ (i : Nat) (b : Int), v = .int (i : Nat) → ns[i]? = some b → Q (.bl (!decide (b = (i : Nat)))) H) ∧ (tieB ns v = false → Tells H CN "tie" v E)
theorem tieB_true {ns : List Int} {v : V} (h : tieB ns v = true) : ∃ (i : Nat) (b : Int), v = .int (i : Nat) ∧ ns[i]? = some b := by
  cases v with
  | int i =>
    have h' : (decide (0 ≤ i) && decide (i ≤ (ns.length : Nat) - 1)) = true := h
    obtain ⟨h1, h2⟩ := Bool.and_eq_true_iff.mp h'
    have h1 := of_decide_eq_true h1
    have h2 := of_decide_eq_true h2
    have hl : i.toNat < ns.length := by omega
    exact ⟨i.toNat, ns[i.toNat], by rw [Int.toNat_of_nonneg h1], List.getElem?_eq_getElem hl⟩
  | _ => cases h
section
variable {P : Program} {w : World} {K : PySem.W.Frag} {mg : Str → Option Value} {base : Heap}
theorem ok_Ties_has {f C fW : Addr} {fd fdW : FuncData} (F : Fun K "has" "Ties.has" s_Ties_has f fd) (T : TiC K C) (GW : Cal P w K mg base CX0 1 "is_whole" fW fdW ["thing", "low", "high"] spWhole) : FnOk P w K mg base CX0 2 f fd ["self", "thing"] (spHas C) := by
  refine F.ok sc_Ties_has (fun vs H Q E h => ?_) (fun cdv A outer s H vs Q E hr h => ?_)
  · obtain ⟨x, ns, v, s, rfl, _⟩ := h
    rfl
  · obtain ⟨x, ns, v, s, rfl, ⟨dx, t, hx, ht⟩, hv, k⟩ := h
    refine ⟨_, (pss_one 
  (ps_ret (pcal GW hr pass0 (pa_cons (pv 1) (pa_cons pe_int (pa_cons (pe_op op_sub (pe_fld (pv 0) rfl) pe_int) pa_nil)))))), ?_⟩
    exact ⟨_, rfl, _, rfl, x, C, dx, _, _, rfl, hx, T.cl, T.nM, tf_many _ _, _, _, rfl, rfl, v, s, _, _, rfl, hv, k⟩
theorem ok_Ties_back {f C CN fH fI : Addr} {fd fdH fdI : FuncData} (F : Fun K "back" "Ties.back" s_Ties_back f fd) (T : TiC K C) (GH : Mt P w K mg base CX0 2 C "has" fH fdH ["self", "thing"] (spHas C)) (GN : Ex P w K mg base "NoTie" "tie" CN fI fdI ["self", "tie"]) :
    FnOk P w K mg base (L2.CX P w) 3 f fd ["self", "tie"] (spBack C CN) := by
  refine F.okX sc_Ties_back (fun vs H Q E h => ?_) (fun cdv A outer s H vs Q E hr h => ?_)
  · obtain ⟨x, ns, v, s, rfl, _⟩ := h
    rfl
  · obtain ⟨x, ns, v, s, rfl, hT, hv, k1, k2⟩ := h
    obtain ⟨dx, t, hx, ht⟩ := id hT
    refine ⟨_, (pss_cons 
  (ps_if (pt_not (pt_val (pe_meth (pv 0) T.cl GH.M GH.F hr GH.b .nil pass0 (pa_cons (pv 1) pa_nil)))) (pss_one 
    (ps_raise rfl (takes_of rfl rfl rfl rfl) (pmk_oex GN.o GN.i GN.t GN.F hr GN.b .nil pass0 rfl GN.m (pa_cons (pv 1) pa_nil)))) pss_nil) (pss_one 
  (ps_ret (pe_ix ix_tup (pe_fld (pv 0) rfl) (pv 1) (fun _ _ => rfl))))), ?_⟩
    refine ⟨_, rfl, x, dx, _, rfl, hx, tf_no _ _ (by decide +kernel) (by decide +kernel), _, rfl, x, ns, v, s, rfl, hT, hv, _, rfl, ?_⟩
    cases e : tieB ns v with
    | true =>
      obtain ⟨i, b, rfl, hb⟩ := tieB_true e
      refine if_fa rfl ⟨_, rfl, x, C, dx, _, _, rfl, hx, T.cl, T.nB, tf_backs _ _, _, rfl, _, _, _, _, rfl, rfl, SqT.of ht, at_of (v := .int b) rfl ?_, k1 i b rfl hb⟩
      rw [List.getElem?_map, hb]
      rfl
    | false => exact if_tr rfl ⟨_, rfl, mkO_of (k2 e)⟩
end
end J

set_option Elab.async false
set_option linter.all false
set_option maxRecDepth 100000
set_option maxHeartbeats 4000000
namespace J
open PySem PySem.Spec PyProof.Rows L2
/-! ### which word is due -/
def backB (xs : List V) (k : Nat) : Bool := match xs[k]? with
  | some (.int n) => decide (xs[n.toNat]? = some (.int (k : Nat)))
  | _ => false
def dueS (xs : List V) : Option Str :=
  if 2 ≤ xs.length ∧ xs.length ≤ 4 then
    if ∀ x ∈ xs, wholeB x 0 ((xs.length : Nat) - 1) = true then
      if ∀ k, k < xs.length → backB xs k = true then none else some "back"
    else some "tie"
  else some "count"
def due : Sh → Option Str
  | .lst xs => dueS xs
  | .tup xs => dueS xs
  | _ => some "row"
def items : Sh → List V
  | .lst xs => xs
  | .tup xs => xs
  | _ => []
def Known (H : Hp) (xs : List V) : Prop := ∀ x ∈ xs, ∃ s, Is H x s
theorem Known.keep {H H' : Hp} {xs : List V} (h : Known H xs) (S : Same H H') : Known H' xs := fun x hx => by
  obtain ⟨s, q⟩ := h x hx
  exact ⟨s, q.keep S⟩
/-- what stands behind a due of none -/
structure GoodB (ns : List Int) : Prop where
  lo : 2 ≤ ns.length
  hi : ns.length ≤ 4
  rng : ∀ n ∈ ns, 0 ≤ n ∧ n < (ns.length : Nat)
  inv : ∀ (k : Nat) (b : Int), ns[k]? = some b → ns[b.toNat]? = some (k : Int)
theorem whole_int {x : V} {hi : Int} (h : wholeB x 0 hi = true) : ∃ n : Int, x = .int n ∧ 0 ≤ n ∧ n ≤ hi := by
  cases x with
  | int i =>
    have h' : (decide (0 ≤ i) && decide (i ≤ hi)) = true := h
    obtain ⟨h1, h2⟩ := Bool.and_eq_true_iff.mp h'
    exact ⟨i, rfl, of_decide_eq_true h1, of_decide_eq_true h2⟩
  | _ => cases h
theorem whole_of {n hi : Int} (h : 0 ≤ n) (h2 : n ≤ hi) : wholeB (.int n) 0 hi = true := by
  show (decide (0 ≤ n) && decide (n ≤ hi)) = true
  rw [decide_eq_true h, decide_eq_true h2]
  rfl
theorem all_ints {hi : Int} : ∀ {xs : List V}, (∀ x ∈ xs, wholeB x 0 hi = true) → ∃ ns : List Int, xs = ns.map V.int ∧ ∀ n ∈ ns, 0 ≤ n ∧ n ≤ hi
  | [], _ => ⟨[], rfl, fun n h => by cases h⟩
  | x :: xs, h => by
    obtain ⟨n, rfl, h1, h2⟩ := whole_int (h x List.mem_cons_self)
    obtain ⟨ns, rfl, q⟩ := all_ints (xs := xs) fun y hy => h y (List.mem_cons_of_mem _ hy)
    refine ⟨n :: ns, rfl, fun m hm => ?_⟩
    rcases List.mem_cons.mp hm with rfl | hm
    · exact ⟨h1, h2⟩
    · exact q m hm
theorem ints_at {ns : List Int} {k : Nat} {b : Int} (h : ns[k]? = some b) : (ns.map V.int)[k]? = some (V.int b) := by
  rw [List.getElem?_map, h]
  rfl
theorem backB_iff {ns : List Int} {k : Nat} {b : Int} (h : ns[k]? = some b) : backB (ns.map V.int) k = decide (ns[b.toNat]? = some (k : Int)) := by
  unfold backB
  rw [ints_at h]
  show decide ((ns.map V.int)[b.toNat]? = some (V.int (k : Nat))) = _
  rw [List.getElem?_map]
  cases e : ns[b.toNat]? with
  | none => simp
  | some c => simp
theorem good_of {xs : List V} (h : dueS xs = none) : ∃ ns : List Int, xs = ns.map V.int ∧ GoodB ns := by
  unfold dueS at h
  split at h
  · rename_i h1
    split at h
    · rename_i h2
      split at h
      · rename_i h3
        obtain ⟨ns, rfl, q⟩ := all_ints h2
        rw [List.length_map] at h1 h3 q
        refine ⟨ns, rfl, h1.1, h1.2, fun n hn => ⟨(q n hn).1, by have := (q n hn).2; omega⟩, fun k b hb => ?_⟩
        have hk := (List.getElem?_eq_some_iff.mp hb).1
        have z := h3 k hk
        rw [backB_iff hb] at z
        exact of_decide_eq_true z
      · cases h
    · cases h
  · cases h
theorem due_of {ns : List Int} (g : GoodB ns) : dueS (ns.map V.int) = none := by
  unfold dueS
  rw [List.length_map, if_pos ⟨g.lo, g.hi⟩, if_pos, if_pos]
  · intro k hk
    obtain ⟨b, hb⟩ : ∃ b, ns[k]? = some b := ⟨ns[k], List.getElem?_eq_getElem hk⟩
    rw [backB_iff hb]
    exact decide_eq_true (g.inv k b hb)
  · intro x hx
    obtain ⟨n, hn, rfl⟩ := List.mem_map.mp hx
    have := g.rng n hn
    exact whole_of this.1 (by omega)
theorem Tells.mono {H H1 : Hp} {C : Addr} {f : Str} {v : V} {E : XK} (h : Tells H C f v E) (S : Same H H1) : Tells H1 C f v E := fun d H' n S1 e => h d H' (S.free n) (S.trans S1) e
theorem fault_count {xs : List V} (h : ¬ (2 ≤ xs.length ∧ xs.length ≤ 4)) : dueS xs = some ("count" : Str) := by
  unfold dueS
  rw [if_neg h]
theorem fault_tie {xs : List V} {x : V} (h : 2 ≤ xs.length ∧ xs.length ≤ 4) (hx : x ∈ xs) (e : wholeB x 0 ((xs.length : Nat) - 1) = false) : dueS xs = some ("tie" : Str) := by
  unfold dueS
  rw [if_pos h, if_neg]
  intro q
  rw [q x hx] at e
  cases e
theorem fault_back {xs : List V} {k : Nat} (h : 2 ≤ xs.length ∧ xs.length ≤ 4) (ha : ∀ x ∈ xs, wholeB x 0 ((xs.length : Nat) - 1) = true) (hk : k < xs.length) (e : backB xs k = false) : dueS xs = some ("back" : Str) := by
  unfold dueS
  rw [if_pos h, if_pos ha, if_neg]
  intro q
  rw [q k hk] at e
  cases e
theorem fault_none {xs : List V} (h : 2 ≤ xs.length ∧ xs.length ≤ 4) (ha : ∀ x ∈ xs, wholeB x 0 ((xs.length : Nat) - 1) = true) (e : ∀ k, k < xs.length → backB xs k = true) : dueS xs = none := by
  unfold dueS
  rw [if_pos h, if_pos ha, if_pos e]
def faultV : Option Str → V
  | none => .non
  | some w => .str w
abbrev s_ties_fault : Stmt := top 14
theorem sc_ties_fault : FnScope ["backs", "many", "back", "tie"] ["backs"] (defScope s_ties_fault) := ⟨rfl, rfl, rfl, by decide +kernel, rfl, by decide +kernel, by decide +kernel⟩
def spFault : Sp := fun vs H Q _ => ∃ (v : V) (s : Sh), vs = [v] ∧ Is H v s ∧ Known H (items s) ∧ ∀ H', Same H H' → Q (faultV (due s)) H'
abbrev s_Ties_init : Stmt := inClass (top 13) 0
theorem sc_Ties_init : FnScope ["self", "backs", "what"] ["self", "backs"] (defScope s_Ties_init) := ⟨rfl, rfl, rfl, by decide +kernel, rfl, by decide +kernel, by decide +kernel⟩
def spTies (C CB : Addr) : Sp := fun vs H Q E => ∃ (x dx : Addr) (v : V) (s : Sh), vs = [.ref x, v] ∧ H x = some (.ins C dx []) ∧ Is H v s ∧ Known H (items s) ∧ (∀ w, due s = some w → Tells H CB "what" (.str w) E) ∧
  (∀ ns, due s = none → items s = ns.map V.int → ∀ H', But x H H' → TiesAt C H' x ns → Q .non H')
section
variable {P : Program} {w : World} {K : PySem.W.Frag} {mg : Str → Option Value} {base : Heap}
theorem ok_ties_fault {f fS fW : Addr} {fd fdS fdW : FuncData} (F : Fun K "ties_fault" "ties_fault" s_ties_fault f fd) (nl : mg "len" = none) (nr : mg "range" = none) (na : mg "all" = none) (mM : ∃ t, mg "MOST_TIES" = some (.int 4 t))
    (GS : Cal P w K mg base CX0 1 "is_sequence" fS fdS ["thing"] spSeq) (GW : Cal P w K mg base CX0 1 "is_whole" fW fdW ["thing", "low", "high"] spWhole) : FnOk P w K mg base CX0 2 f fd ["backs"] spFault := by
  obtain ⟨tM, mM⟩ := mM
  refine F.ok sc_ties_fault (fun vs H Q E h => ?_) (fun cdv A outer s H vs Q E hr h => ?_)
  · obtain ⟨v, s, rfl, _⟩ := h
    rfl
  · obtain ⟨v, sh, rfl, hv, kn, k⟩ := h
    cases sh with
    | sc u =>
      refine ⟨_, (pss_cons 
  (ps_if (pt_not (pt_val (pcal GS hr pass0 (pa_cons (pv 0) pa_nil)))) (pss_one 
    (ps_ret pe_str)) pss_nil) (pss_cons 
  (ps_set (i := 1) sc_ties_fault.nd rfl (Or.inr rfl) (pe_callB call_len_seq (by rfl) nl PySem.boot_len (pa_cons (pv 0) pa_nil))) (pss_cons 
  (ps_if (pt_not (pt_chain op_le op_le pe_int (pv 1) (pe_glob (v := .int 4) rfl mM ⟨_, rfl⟩))) (pss_one 
    (ps_ret pe_str)) pss_nil) (pss_cons 
  (ps_if (pt_not (pt_val (pe_callB (cr_all rfl) (by rfl) na (by decide +kernel) (pa_cons (pe_lc (own := [("back", 2)]) (g := gName 2) (by rfl) sc_ties_fault.nd (pi_list (pv 0)) (blkOk_by (own := [("back", 2)]) (N := ["backs", "many", "back", "tie"]) (sc := defScope s_ties_fault) (by decide +kernel)) (fun _ _ _ _ _ => pg_name (i := 2) sc_ties_fault.nd rfl (Or.inl rfl)) (fun _ _ _ _ _ => pts_nil) (fun _ _ _ _ _ => (pcal GW hr pass0 (pa_cons (pv 2) (pa_cons pe_int (pa_cons (pe_op op_sub (pv 1) pe_int) pa_nil)))))) pa_nil)))) (pss_one 
    (ps_ret pe_str)) pss_nil) (pss_cons 
  (ps_if (pt_not (pt_val (pe_callB (cr_all rfl) (by rfl) na (by decide +kernel) (pa_cons (pe_lc (own := [("tie", 3)]) (g := gName 3) (by rfl) sc_ties_fault.nd (pi_range1 (by rfl) nr (pa_cons (pv 1) pa_nil)) (blkOk_by (own := [("tie", 3)]) (N := ["backs", "many", "back", "tie"]) (sc := defScope s_ties_fault) (by decide +kernel)) (fun _ _ _ _ _ => pg_name (i := 3) sc_ties_fault.nd rfl (Or.inl rfl)) (fun _ _ _ _ _ => pts_nil) (fun _ _ _ _ _ => (pe_cmpR op_eq (pe_ix (r := rIxL K) ix_list (pv 0) (pe_ix (r := rIxL K) ix_list (pv 0) (pv 3) (fun _ _ => rfl)) (fun _ _ => rfl)) (pv 3) (nomark _)))) pa_nil)))) (pss_one 
    (ps_ret pe_str)) pss_nil) (pss_one 
  (ps_ret pe_non))))))), ?_⟩
      exact ⟨_, rfl, _, (.sc u), rfl, hv, fun H1 S1 => ⟨_, rfl, iteT (k _ S1)⟩⟩
    | dk =>
      refine ⟨_, (pss_cons 
  (ps_if (pt_not (pt_val (pcal GS hr pass0 (pa_cons (pv 0) pa_nil)))) (pss_one 
    (ps_ret pe_str)) pss_nil) (pss_cons 
  (ps_set (i := 1) sc_ties_fault.nd rfl (Or.inr rfl) (pe_callB call_len_seq (by rfl) nl PySem.boot_len (pa_cons (pv 0) pa_nil))) (pss_cons 
  (ps_if (pt_not (pt_chain op_le op_le pe_int (pv 1) (pe_glob (v := .int 4) rfl mM ⟨_, rfl⟩))) (pss_one 
    (ps_ret pe_str)) pss_nil) (pss_cons 
  (ps_if (pt_not (pt_val (pe_callB (cr_all rfl) (by rfl) na (by decide +kernel) (pa_cons (pe_lc (own := [("back", 2)]) (g := gName 2) (by rfl) sc_ties_fault.nd (pi_list (pv 0)) (blkOk_by (own := [("back", 2)]) (N := ["backs", "many", "back", "tie"]) (sc := defScope s_ties_fault) (by decide +kernel)) (fun _ _ _ _ _ => pg_name (i := 2) sc_ties_fault.nd rfl (Or.inl rfl)) (fun _ _ _ _ _ => pts_nil) (fun _ _ _ _ _ => (pcal GW hr pass0 (pa_cons (pv 2) (pa_cons pe_int (pa_cons (pe_op op_sub (pv 1) pe_int) pa_nil)))))) pa_nil)))) (pss_one 
    (ps_ret pe_str)) pss_nil) (pss_cons 
  (ps_if (pt_not (pt_val (pe_callB (cr_all rfl) (by rfl) na (by decide +kernel) (pa_cons (pe_lc (own := [("tie", 3)]) (g := gName 3) (by rfl) sc_ties_fault.nd (pi_range1 (by rfl) nr (pa_cons (pv 1) pa_nil)) (blkOk_by (own := [("tie", 3)]) (N := ["backs", "many", "back", "tie"]) (sc := defScope s_ties_fault) (by decide +kernel)) (fun _ _ _ _ _ => pg_name (i := 3) sc_ties_fault.nd rfl (Or.inl rfl)) (fun _ _ _ _ _ => pts_nil) (fun _ _ _ _ _ => (pe_cmpR op_eq (pe_ix (r := rIxL K) ix_list (pv 0) (pe_ix (r := rIxL K) ix_list (pv 0) (pv 3) (fun _ _ => rfl)) (fun _ _ => rfl)) (pv 3) (nomark _)))) pa_nil)))) (pss_one 
    (ps_ret pe_str)) pss_nil) (pss_one 
  (ps_ret pe_non))))))), ?_⟩
      exact ⟨_, rfl, _, .dk, rfl, hv, fun H1 S1 => ⟨_, rfl, iteT (k _ S1)⟩⟩
    | lst xs =>
      obtain ⟨p, rfl, hp⟩ := hv
      refine ⟨_, (pss_cons 
  (ps_if (pt_not (pt_val (pcal GS hr pass0 (pa_cons (pv 0) pa_nil)))) (pss_one 
    (ps_ret pe_str)) pss_nil) (pss_cons 
  (ps_set (i := 1) sc_ties_fault.nd rfl (Or.inr rfl) (pe_callB call_len_seq (by rfl) nl PySem.boot_len (pa_cons (pv 0) pa_nil))) (pss_cons 
  (ps_if (pt_not (pt_chain op_le op_le pe_int (pv 1) (pe_glob (v := .int 4) rfl mM ⟨_, rfl⟩))) (pss_one 
    (ps_ret pe_str)) pss_nil) (pss_cons 
  (ps_if (pt_not (pt_val (pe_callB (cr_all rfl) (by rfl) na (by decide +kernel) (pa_cons (pe_lc (own := [("back", 2)]) (g := gName 2) (by rfl) sc_ties_fault.nd (pi_list (pv 0)) (blkOk_by (own := [("back", 2)]) (N := ["backs", "many", "back", "tie"]) (sc := defScope s_ties_fault) (by decide +kernel)) (fun _ _ _ _ _ => pg_name (i := 2) sc_ties_fault.nd rfl (Or.inl rfl)) (fun _ _ _ _ _ => pts_nil) (fun _ _ _ _ _ => (pcal GW hr pass0 (pa_cons (pv 2) (pa_cons pe_int (pa_cons (pe_op op_sub (pv 1) pe_int) pa_nil)))))) pa_nil)))) (pss_one 
    (ps_ret pe_str)) pss_nil) (pss_cons 
  (ps_if (pt_not (pt_val (pe_callB (cr_all rfl) (by rfl) na (by decide +kernel) (pa_cons (pe_lc (own := [("tie", 3)]) (g := gName 3) (by rfl) sc_ties_fault.nd (pi_range1 (by rfl) nr (pa_cons (pv 1) pa_nil)) (blkOk_by (own := [("tie", 3)]) (N := ["backs", "many", "back", "tie"]) (sc := defScope s_ties_fault) (by decide +kernel)) (fun _ _ _ _ _ => pg_name (i := 3) sc_ties_fault.nd rfl (Or.inl rfl)) (fun _ _ _ _ _ => pts_nil) (fun _ _ _ _ _ => (pe_cmpR op_eq (pe_ix (r := rIxL K) ix_list (pv 0) (pe_ix (r := rIxL K) ix_list (pv 0) (pv 3) (fun _ _ => rfl)) (fun _ _ => rfl)) (pv 3) (nomark _)))) pa_nil)))) (pss_one 
    (ps_ret pe_str)) pss_nil) (pss_one 
  (ps_ret pe_non))))))), ?_⟩
      refine ⟨_, rfl, _, .lst xs, rfl, ⟨p, rfl, hp⟩, fun H1 S1 => ⟨_, rfl, iteF ?_⟩⟩
      have h1 := S1 _ _ hp
      have kn1 : Known H1 xs := kn.keep S1
      have say : ∀ (H2 : Hp) (o : Option Str), Same H1 H2 → dueS xs = o → Q (faultV o) H2 := fun H2 o S2 e => by
        have z := k _ (S1.trans S2)
        have e2 : due (.lst xs) = o := e
        rw [e2] at z
        exact z
      refine ⟨_, rfl, p, xs, rfl, .inl (SqL.of h1), ?_⟩
      refine ⟨_, rfl, _, _, rfl, rfl, _, rfl, ?_⟩
      by_cases c1 : (2 : Int) ≤ ((xs.length : Nat) : Int)
      case neg => exact if_fa (decide_eq_false c1) ⟨_, rfl, iteT (say _ (some "count") (Same.refl _) (fault_count (by omega)))⟩
      refine if_tr (decide_eq_true c1) ⟨_, _, rfl, rfl, _, rfl, ?_⟩
      by_cases c2 : ((xs.length : Nat) : Int) ≤ 4
      case neg =>
        rw [decide_eq_false c2]
        exact iteT (say _ (some "count") (Same.refl _) (fault_count (by omega)))
      rw [decide_eq_true c2]
      refine iteF ?_
      have c12 : 2 ≤ xs.length ∧ xs.length ≤ 4 := by omega
      refine ⟨_, rfl, p, rfl, ⟨_, SqL.of h1⟩, fun D hD => ?_⟩
      refine lc_list (K := K) (a := p) (xs := xs) (fun i H2 => Same H1 H2 ∧ H1 D = none ∧ H2 D = some (.lst ((xs.take i).map fun y => V.bl (wholeB y 0 ((xs.length : Nat) - 1))))) ⟨new_same hD, hD, upd_same⟩ (fun i H2 _ ⟨S, _⟩ => SqL.of (S _ _ h1)) ?_ ?_
      · rintro i y H2 hy ⟨S2, D0, eD⟩
        have hi := (List.getElem?_eq_some_iff.mp hy).1
        obtain ⟨sy, isy⟩ := kn1 y (List.mem_of_getElem? hy)
        refine ⟨rfl, yesT ?_⟩
        refine ⟨_, rfl, _, rfl, _, _, rfl, rfl, y, sy, _, _, rfl, isy.keep S2, _, eD, small1000 (by rw [List.length_map, List.length_take]; omega), fun b o e => ?_, D0, by rw [upd_same, List.take_add_one, hy, List.map_append]; rfl⟩
        rw [upd_ne (ne_of_none e D0)]
        exact S2 _ _ e
      rintro H2 ⟨S2, D0, eD⟩
      rw [List.take_length] at eD
      refine ⟨D, xs.map fun y => wholeB y 0 ((xs.length : Nat) - 1), rfl, SqL.of (by rw [eD, List.map_map]; rfl), _, rfl, ?_⟩
      cases ea : (xs.map fun y => wholeB y 0 ((xs.length : Nat) - 1)).all id with
      | false =>
        refine iteT (say _ (some "tie") S2 ?_)
        rw [List.all_map, List.all_eq_false] at ea
        obtain ⟨x, hx, hw⟩ := ea
        exact fault_tie c12 hx (by simpa using hw)
      | true =>
        refine iteF ?_
        rw [List.all_map, List.all_eq_true] at ea
        have hall : ∀ x ∈ xs, wholeB x 0 ((xs.length : Nat) - 1) = true := fun x hx => ea x hx
        obtain ⟨ns, hns, hr2⟩ := all_ints hall
        have hln : xs.length = ns.length := by rw [hns, List.length_map]
        refine ⟨_, rfl, (xs.length : Nat), rfl, by omega, by omega, fun E' hE => ?_⟩
        refine lc_range (lo := 0) (n := xs.length) (fun i H3 => Same H2 H3 ∧ H2 E' = none ∧ H3 E' = some (.lst ((List.range i).map fun j => V.bl (backB xs j)))) ⟨new_same hE, hE, upd_same⟩ ?_ ?_
        · rintro i H3 hi ⟨S3, E0, eE⟩
          have h3 := S3 _ _ (S2 _ _ h1)
          have hi' : i < ns.length := by omega
          have hbi : ns[i]? = some ns[i] := List.getElem?_eq_getElem hi'
          have hmem := hr2 _ (List.getElem_mem hi')
          generalize ns[i] = b at hbi hmem
          have hbl : b.toNat < ns.length := by omega
          have hci : ns[b.toNat]? = some ns[b.toNat] := List.getElem?_eq_getElem hbl
          generalize ns[b.toNat] = c at hci
          have hbk := backB_iff hbi
          rw [← hns, hci] at hbk
          have val : decide (V.int c = V.int (0 + (i : Nat))) = backB xs i := by
            rw [hbk]
            by_cases z : c = (i : Int) <;> simp [z]
          refine ⟨rfl, yesT ?_⟩
          refine ⟨_, rfl, _, rfl, _, rfl, _, _, _, _, rfl, rfl, SqL.of h3, at_of (j := i) (v := .int b) (by omega) (by rw [hns]; exact ints_at hbi), _, _, _, _, rfl, rfl, SqL.of h3, at_of (j := b.toNat) (v := .int c) (by omega) (by rw [hns]; exact ints_at hci), _, rfl, rfl, _, eE, small1000 (by rw [List.length_map, List.length_range]; omega), fun b' o e => ?_, E0, ?_⟩
          · rw [upd_ne (ne_of_none e E0)]
            exact S3 _ _ e
          · rw [upd_same, val, List.range_succ, List.map_append]
            rfl
        rintro H3 ⟨S3, E0, eE⟩
        refine ⟨E', (List.range xs.length).map (backB xs), rfl, SqL.of (by rw [eE, List.map_map]; rfl), _, rfl, ?_⟩
        cases eb : ((List.range xs.length).map (backB xs)).all id with
        | false =>
          refine iteT (say _ (some "back") (S2.trans S3) ?_)
          rw [List.all_map, List.all_eq_false] at eb
          obtain ⟨j, hj, hw⟩ := eb
          exact fault_back c12 hall (List.mem_range.mp hj) (by simpa using hw)
        | true =>
          refine iteF (say _ none (S2.trans S3) ?_)
          rw [List.all_map, List.all_eq_true] at eb
          exact fault_none c12 hall fun j hj => eb j (List.mem_range.mpr hj)
    | tup xs =>
      obtain ⟨p, rfl, hp⟩ := hv
      refine ⟨_, (pss_cons 
  (ps_if (pt_not (pt_val (pcal GS hr pass0 (pa_cons (pv 0) pa_nil)))) (pss_one 
    (ps_ret pe_str)) pss_nil) (pss_cons 
  (ps_set (i := 1) sc_ties_fault.nd rfl (Or.inr rfl) (pe_callB call_len_seq (by rfl) nl PySem.boot_len (pa_cons (pv 0) pa_nil))) (pss_cons 
  (ps_if (pt_not (pt_chain op_le op_le pe_int (pv 1) (pe_glob (v := .int 4) rfl mM ⟨_, rfl⟩))) (pss_one 
    (ps_ret pe_str)) pss_nil) (pss_cons 
  (ps_if (pt_not (pt_val (pe_callB (cr_all rfl) (by rfl) na (by decide +kernel) (pa_cons (pe_lc (own := [("back", 2)]) (g := gName 2) (by rfl) sc_ties_fault.nd (pi_tup (pv 0)) (blkOk_by (own := [("back", 2)]) (N := ["backs", "many", "back", "tie"]) (sc := defScope s_ties_fault) (by decide +kernel)) (fun _ _ _ _ _ => pg_name (i := 2) sc_ties_fault.nd rfl (Or.inl rfl)) (fun _ _ _ _ _ => pts_nil) (fun _ _ _ _ _ => (pcal GW hr pass0 (pa_cons (pv 2) (pa_cons pe_int (pa_cons (pe_op op_sub (pv 1) pe_int) pa_nil)))))) pa_nil)))) (pss_one 
    (ps_ret pe_str)) pss_nil) (pss_cons 
  (ps_if (pt_not (pt_val (pe_callB (cr_all rfl) (by rfl) na (by decide +kernel) (pa_cons (pe_lc (own := [("tie", 3)]) (g := gName 3) (by rfl) sc_ties_fault.nd (pi_range1 (by rfl) nr (pa_cons (pv 1) pa_nil)) (blkOk_by (own := [("tie", 3)]) (N := ["backs", "many", "back", "tie"]) (sc := defScope s_ties_fault) (by decide +kernel)) (fun _ _ _ _ _ => pg_name (i := 3) sc_ties_fault.nd rfl (Or.inl rfl)) (fun _ _ _ _ _ => pts_nil) (fun _ _ _ _ _ => (pe_cmpR op_eq (pe_ix (r := rIxT K) ix_tup (pv 0) (pe_ix (r := rIxT K) ix_tup (pv 0) (pv 3) (fun _ _ => rfl)) (fun _ _ => rfl)) (pv 3) (nomark _)))) pa_nil)))) (pss_one 
    (ps_ret pe_str)) pss_nil) (pss_one 
  (ps_ret pe_non))))))), ?_⟩
      refine ⟨_, rfl, _, .tup xs, rfl, ⟨p, rfl, hp⟩, fun H1 S1 => ⟨_, rfl, iteF ?_⟩⟩
      have h1 := S1 _ _ hp
      have kn1 : Known H1 xs := kn.keep S1
      have say : ∀ (H2 : Hp) (o : Option Str), Same H1 H2 → dueS xs = o → Q (faultV o) H2 := fun H2 o S2 e => by
        have z := k _ (S1.trans S2)
        have e2 : due (.tup xs) = o := e
        rw [e2] at z
        exact z
      refine ⟨_, rfl, p, xs, rfl, .inr (SqT.of h1), ?_⟩
      refine ⟨_, rfl, _, _, rfl, rfl, _, rfl, ?_⟩
      by_cases c1 : (2 : Int) ≤ ((xs.length : Nat) : Int)
      case neg => exact if_fa (decide_eq_false c1) ⟨_, rfl, iteT (say _ (some "count") (Same.refl _) (fault_count (by omega)))⟩
      refine if_tr (decide_eq_true c1) ⟨_, _, rfl, rfl, _, rfl, ?_⟩
      by_cases c2 : ((xs.length : Nat) : Int) ≤ 4
      case neg =>
        rw [decide_eq_false c2]
        exact iteT (say _ (some "count") (Same.refl _) (fault_count (by omega)))
      rw [decide_eq_true c2]
      refine iteF ?_
      have c12 : 2 ≤ xs.length ∧ xs.length ≤ 4 := by omega
      refine ⟨_, rfl, p, rfl, ⟨_, SqT.of h1⟩, fun D hD => ?_⟩
      refine lc_tup (K := K) (a := p) (xs := xs) (fun i H2 => Same H1 H2 ∧ H1 D = none ∧ H2 D = some (.lst ((xs.take i).map fun y => V.bl (wholeB y 0 ((xs.length : Nat) - 1))))) ⟨new_same hD, hD, upd_same⟩ (fun i H2 _ ⟨S, _⟩ => SqT.of (S _ _ h1)) ?_ ?_
      · rintro i y H2 hy ⟨S2, D0, eD⟩
        have hi := (List.getElem?_eq_some_iff.mp hy).1
        obtain ⟨sy, isy⟩ := kn1 y (List.mem_of_getElem? hy)
        refine ⟨rfl, yesT ?_⟩
        refine ⟨_, rfl, _, rfl, _, _, rfl, rfl, y, sy, _, _, rfl, isy.keep S2, _, eD, small1000 (by rw [List.length_map, List.length_take]; omega), fun b o e => ?_, D0, by rw [upd_same, List.take_add_one, hy, List.map_append]; rfl⟩
        rw [upd_ne (ne_of_none e D0)]
        exact S2 _ _ e
      rintro H2 ⟨S2, D0, eD⟩
      rw [List.take_length] at eD
      refine ⟨D, xs.map fun y => wholeB y 0 ((xs.length : Nat) - 1), rfl, SqL.of (by rw [eD, List.map_map]; rfl), _, rfl, ?_⟩
      cases ea : (xs.map fun y => wholeB y 0 ((xs.length : Nat) - 1)).all id with
      | false =>
        refine iteT (say _ (some "tie") S2 ?_)
        rw [List.all_map, List.all_eq_false] at ea
        obtain ⟨x, hx, hw⟩ := ea
        exact fault_tie c12 hx (by simpa using hw)
      | true =>
        refine iteF ?_
        rw [List.all_map, List.all_eq_true] at ea
        have hall : ∀ x ∈ xs, wholeB x 0 ((xs.length : Nat) - 1) = true := fun x hx => ea x hx
        obtain ⟨ns, hns, hr2⟩ := all_ints hall
        have hln : xs.length = ns.length := by rw [hns, List.length_map]
        refine ⟨_, rfl, (xs.length : Nat), rfl, by omega, by omega, fun E' hE => ?_⟩
        refine lc_range (lo := 0) (n := xs.length) (fun i H3 => Same H2 H3 ∧ H2 E' = none ∧ H3 E' = some (.lst ((List.range i).map fun j => V.bl (backB xs j)))) ⟨new_same hE, hE, upd_same⟩ ?_ ?_
        · rintro i H3 hi ⟨S3, E0, eE⟩
          have h3 := S3 _ _ (S2 _ _ h1)
          have hi' : i < ns.length := by omega
          have hbi : ns[i]? = some ns[i] := List.getElem?_eq_getElem hi'
          have hmem := hr2 _ (List.getElem_mem hi')
          generalize ns[i] = b at hbi hmem
          have hbl : b.toNat < ns.length := by omega
          have hci : ns[b.toNat]? = some ns[b.toNat] := List.getElem?_eq_getElem hbl
          generalize ns[b.toNat] = c at hci
          have hbk := backB_iff hbi
          rw [← hns, hci] at hbk
          have val : decide (V.int c = V.int (0 + (i : Nat))) = backB xs i := by
            rw [hbk]
            by_cases z : c = (i : Int) <;> simp [z]
          refine ⟨rfl, yesT ?_⟩
          refine ⟨_, rfl, _, rfl, _, rfl, _, _, _, _, rfl, rfl, SqT.of h3, at_of (j := i) (v := .int b) (by omega) (by rw [hns]; exact ints_at hbi), _, _, _, _, rfl, rfl, SqT.of h3, at_of (j := b.toNat) (v := .int c) (by omega) (by rw [hns]; exact ints_at hci), _, rfl, rfl, _, eE, small1000 (by rw [List.length_map, List.length_range]; omega), fun b' o e => ?_, E0, ?_⟩
          · rw [upd_ne (ne_of_none e E0)]
            exact S3 _ _ e
          · rw [upd_same, val, List.range_succ, List.map_append]
            rfl
        rintro H3 ⟨S3, E0, eE⟩
        refine ⟨E', (List.range xs.length).map (backB xs), rfl, SqL.of (by rw [eE, List.map_map]; rfl), _, rfl, ?_⟩
        cases eb : ((List.range xs.length).map (backB xs)).all id with
        | false =>
          refine iteT (say _ (some "back") (S2.trans S3) ?_)
          rw [List.all_map, List.all_eq_false] at eb
          obtain ⟨j, hj, hw⟩ := eb
          exact fault_back c12 hall (List.mem_range.mp hj) (by simpa using hw)
        | true =>
          refine iteF (say _ none (S2.trans S3) ?_)
          rw [List.all_map, List.all_eq_true] at eb
          exact fault_none c12 hall fun j hj => eb j (List.mem_range.mpr hj)
theorem ok_Ties_init {f C CB fC fI : Addr} {fd fdC fdI : FuncData} (F : Fun K "__init__" "Ties.__init__" s_Ties_init f fd) (T : TiC K C) (nl : mg "len" = none) (nt : mg "tuple" = none)
    (GF : Cal P w K mg base CX0 2 "ties_fault" fC fdC ["backs"] spFault) (GB : Ex P w K mg base "BadTies" "what" CB fI fdI ["self", "what"]) : FnOk P w K mg base (L2.CX P w) 4 f fd ["self", "backs"] (spTies C CB) := by
  refine F.okX sc_Ties_init (fun vs H Q E h => ?_) (fun cdv A outer s H vs Q E hr h => ?_)
  · obtain ⟨x, dx, v, s, rfl, _⟩ := h
    rfl
  · obtain ⟨x, dx, v, sh, rfl, hx, hv, kn, k1, k2⟩ := h
    refine ⟨_, (pss_cons 
  (ps_set (i := 2) sc_Ties_init.nd rfl (Or.inl rfl) (pcal GF hr pass0 (pa_cons (pv 1) pa_nil))) (pss_cons 
  (ps_if (pt_cmpR op_notN (pv 2) pe_non (nomark _)) (pss_one 
    (ps_raise rfl (takes_of rfl rfl rfl rfl) (pmk_oex GB.o GB.i GB.t GB.F (hr.mono (by decide)) GB.b .nil pass0 rfl GB.m (pa_cons (pv 2) pa_nil)))) pss_nil) (pss_cons 
  (ps_fld (pv 0) (pe_callTy (T := "tuple") (r := fun xs H Q => ∃ p ys, xs = [.ref p] ∧ ((SqL K H p ys ∧ ∀ l, H l = none → Q (.ref l) (upd H l (.tup ys))) ∨ (SqT K H p ys ∧ Q (.ref p) H))) call_tuple_of (by rfl) nt (by decide +kernel) (pa_cons (pv 1) pa_nil)) rfl) (pss_one 
  (ps_fld (pv 0) (pe_callB call_len_seq (by rfl) nl PySem.boot_len (pa_cons (pe_fld (pv 0) rfl) pa_nil)) rfl))))), ?_⟩
    refine ⟨_, rfl, v, sh, rfl, hv, kn, fun H1 S1 => ?_⟩
    have k1' := k1
    cases hd : due sh with
    | some u =>
      refine ⟨_, rfl, rfl, _, rfl, if_tr (by simp [faultV]) ⟨_, rfl, mkO_of ((k1 u hd).mono S1)⟩⟩
    | none =>
      refine ⟨_, rfl, rfl, _, rfl, if_fa (by simp [faultV]) ?_⟩
      have hx1 := S1 _ _ hx
      cases sh with
      | sc u => cases hd
      | dk => cases hd
      | lst xs =>
        obtain ⟨p, rfl, hp⟩ := hv
        obtain ⟨ns, e, g⟩ := good_of hd
        subst e
        have npx : p ≠ x := ne_of hp hx (by intro z; cases z)
        have h1 := S1 _ _ hp
        refine ⟨_, rfl, p, _, rfl, .inl ⟨SqL.of h1, fun t ht => ?_⟩⟩
        have ntx : t ≠ x := (ne_of_none hx1 ht).symm
        refine ⟨_, rfl, x, C, dx, [], rfl, (by rw [upd_ne ntx.symm]; exact hx1), T.cl, T.nB, (by show 0 < 1000; decide), ?_⟩
        refine ⟨_, rfl, x, C, dx, _, _, rfl, upd_same, T.cl, T.nB, (by rw [lookup_putF, if_pos rfl]), t, _, rfl, .inr (SqT.of (by rw [upd_ne ntx, upd_same])), ?_⟩
        refine ⟨_, rfl, x, C, dx, _, rfl, upd_same, T.cl, T.nM, (by show 1 < 1000; decide), ?_⟩
        refine k2 ns hd rfl _ (fun b o nb eb => ?_) ⟨dx, t, by rw [upd_same, List.length_map]; rfl, by rw [upd_ne ntx, upd_ne ntx, upd_same]⟩
        have e1 := S1 _ _ eb
        rw [upd_ne nb, upd_ne nb, upd_ne (ne_of_none e1 ht)]
        exact e1
      | tup xs =>
        obtain ⟨p, rfl, hp⟩ := hv
        obtain ⟨ns, e, g⟩ := good_of hd
        subst e
        have npx : p ≠ x := ne_of hp hx (by intro z; cases z)
        have h1 := S1 _ _ hp
        refine ⟨_, rfl, p, _, rfl, .inr ⟨SqT.of h1, ?_⟩⟩
        refine ⟨_, rfl, x, C, dx, [], rfl, hx1, T.cl, T.nB, (by show 0 < 1000; decide), ?_⟩
        refine ⟨_, rfl, x, C, dx, _, _, rfl, upd_same, T.cl, T.nB, (by rw [lookup_putF, if_pos rfl]), p, _, rfl, .inr (SqT.of (by rw [upd_ne npx]; exact h1)), ?_⟩
        refine ⟨_, rfl, x, C, dx, _, rfl, upd_same, T.cl, T.nM, (by show 1 < 1000; decide), ?_⟩
        refine k2 ns hd rfl _ (fun b o nb eb => ?_) ⟨dx, p, by rw [upd_same, List.length_map]; rfl, by rw [upd_ne npx, upd_ne npx]; exact h1⟩
        rw [upd_ne nb, upd_ne nb]
        exact S1 _ _ eb
end
end J

set_option Elab.async false
set_option linter.all false
set_option maxRecDepth 100000
set_option maxHeartbeats 4000000
namespace J
open PySem PySem.Spec PyProof.Rows L2
def wordV : Option Str → V
  | none => .non
  | some w => .str w
def spDueX : Sp := fun vs H Q E => ∃ (v : V) (s : Sh), vs = [v] ∧ Is H v s ∧ Known H (items s) ∧ ∀ H', Same H H' → Q (wordV (due s)) H'
theorem dueS_count {xs : List V} (h : ¬ (2 ≤ xs.length ∧ xs.length ≤ 4)) : dueS xs = some ("count" : Str) := by
  unfold dueS
  rw [if_neg h]
theorem dueS_tie {xs : List V} {x : V} (h : 2 ≤ xs.length ∧ xs.length ≤ 4) (hx : x ∈ xs) (e : wholeB x 0 ((xs.length : Nat) - 1) = false) : dueS xs = some ("tie" : Str) := by
  unfold dueS
  rw [if_pos h, if_neg]
  intro q
  rw [q x hx] at e
  cases e
theorem dueS_back {xs : List V} {k : Nat} (h : 2 ≤ xs.length ∧ xs.length ≤ 4) (ha : ∀ x ∈ xs, wholeB x 0 ((xs.length : Nat) - 1) = true) (hk : k < xs.length) (e : backB xs k = false) : dueS xs = some ("back" : Str) := by
  unfold dueS
  rw [if_pos h, if_pos ha, if_neg]
  intro q
  rw [q k hk] at e
  cases e
theorem dueS_none {xs : List V} (h : 2 ≤ xs.length ∧ xs.length ≤ 4) (ha : ∀ x ∈ xs, wholeB x 0 ((xs.length : Nat) - 1) = true) (e : ∀ k, k < xs.length → backB xs k = true) : dueS xs = none := by
  unfold dueS
  rw [if_pos h, if_pos ha, if_pos e]
theorem whole_lo {n lo hi : Int} (h : ¬ lo ≤ n) : wholeB (.int n) lo hi = false := by
  show (decide (lo ≤ n) && decide (n ≤ hi)) = false
  rw [decide_eq_false h]
  rfl
theorem whole_hi {n lo hi : Int} (h : ¬ n ≤ hi) : wholeB (.int n) lo hi = false := by
  show (decide (lo ≤ n) && decide (n ≤ hi)) = false
  rw [decide_eq_false h, Bool.and_false]
theorem is_new {K : PySem.W.Frag} {H : Hp} {x : V} {s : Sh} {p : Addr} (hx : Is H x s) (hp : H p = none) : ∃ t : String, TyX K (upd H p (.tup [.ty "list", .ty "tuple"])) x (.type t) ∧ PySem.W.kitAny K (.type t) [.type "list", .type "tuple"] = some (s.isL || s.isT) := by
  obtain ⟨t, ht, _, _, k1, k2⟩ := (hx.keep (new_same hp)).ty (K := K)
  exact ⟨t, ht, kit_seq k1 k2⟩
theorem isi_seq2 {K : PySem.W.Frag} {H : Hp} {x : V} {s : Sh} {Q : VK} {p : Addr} (hx : Is H x s) (hp : H p = none) (k : ∀ H', Same H H' → Q (.bl (s.isL || s.isT)) H') : rIsiT K [x, .ref p] (upd H p (.tup [.ty "list", .ty "tuple"])) Q := (isi_seq hx k).2 p hp
section
variable {P : Program} {w : World} {K : PySem.W.Frag} {mg : Str → Option Value} {base : Heap}
end
end J

set_option Elab.async false
set_option linter.all false
set_option maxRecDepth 100000
set_option maxHeartbeats 4000000
namespace J
open PySem PySem.Spec PyProof.Rows L2
/-! ### calls that may raise, within a try -/
section
variable {X : Cx} {CX : CXT} {k : Nat} {f C : Addr} {fd : FuncData} {ps : List Str} {sp : Sp} {E : L2.St → XK} {x m : Str} {p pos apos : Pos} {e o : Expr} {es : List Expr} {ta : TE} {t : TA}
def tMethS (m : Str) (sp : Sp) (C : Addr) (E : L2.St → XK) (ta : TE) (t : TA) : TE := fun σ H Q => ta σ H fun x H1 => ∃ a dx fs, x = .ref a ∧ H1 a = some (.ins C dx fs) ∧ fs.lookup m = none ∧ t σ H1 fun vs H2 => sp (.ref a :: vs) H2 Q (E σ)
theorem pmetS {pl : Sem Bool} (he : PE X o ta) (c : Cls X.K C) (hm : Meth X.K C m f) (F : FnOk X.prog X.w X.K X.mg X.base CX k f fd ps sp) (hr : Room k X.A) (hb : Binds X.K fd ps [])
    (hx : ∀ σ, PassesAt CX X σ (E σ)) (ha : PA X (e :: es) t)
    (hst : starEach (e :: es) X.env = (false, eval e X.env) :: starEach es X.env := by rfl)
    (hpl : (backTo pos (starEach es X.env)).any (·.1) = false := by rfl)
    (ht : eval (.Call (.Attribute o m apos) (e :: es) [] pos) X.env = (do let ov ← eval o X.env; standAt apos.atName; let (f, first) ← holding [ov] (getMethod ov m pl); callWith pos f first (backTo pos (starEach (e :: es) X.env)) (backToKw pos (keywordEach [] X.env))) := by rfl) :
    PE X (.Call (.Attribute o m apos) (e :: es) [] pos) (tMethS m sp C E ta t) := by
  constructor
  intro pins s σ H Q I h
  refine PySem.W.methodCall_KW (pl := pl) (thn (he.run pins s σ H _ I h) ?_) ht
  rintro u s1 ⟨x, H1, I1, rx, a, dx, fs, ex, ea, l, q⟩
  subst ex
  obtain rfl : u = Value.ref a := rx
  apply getmeth_ok I1 ea c hm l
  refine PySem.W.callWith_K (first := [.ref a]) (h₀ := X.base) I.ok.mod.kin hm.kp (thn (ha.run pos pins s1 σ H1 _ I1 q) ?_) hst hpl
  rintro us s2 ⟨vs, H2, I2, r, q2⟩
  refine ⟨I2.kIn, ?_⟩
  exact run_fnS (us := .ref a :: us) (vs := .ref a :: vs) F hr hb (hx σ) I2 (.cons rfl r) q2
def tMakeS (C : Addr) (sp : Sp) (E : L2.St → XK) (t : TA) : TE := fun σ H Q => t σ H fun vs H1 => ∀ x dx, H1 x = none → H1 dx = none → dx ≠ x → sp (.ref x :: vs) (upd (upd H1 dx (.own x)) x (.ins C dx [])) (fun v H2 => v = .non ∧ Q (.ref x) H2) (E σ)
theorem pmakS (M : Mk X.K C f) (F : FnOk X.prog X.w X.K X.mg X.base CX k f fd ps sp) (hr : Room (k + 1) X.A) (hg : Gl X x) (hm : X.mg x = some (.ref C)) (hb : Binds X.K fd ps []) (hx : ∀ σ, PassesAt CX X σ (E σ))
    (ha : PA X (e :: es) t) (hdb : (x == ("__debug__" : Str)) = false := by decide)
    (he : starEach (e :: es) X.env = (false, eval e X.env) :: starEach es X.env := by rfl)
    (hpl : (backTo pos (starEach es X.env)).any (·.1) = false := by rfl) :
    PE X (.Call (.Name x p) (e :: es) [] pos) (tMakeS C sp E t) := by
  constructor
  intro pins s σ H Q I h
  refine wpAny_Call_Name_kw (ld_glob I hg hm ?_ hdb)
  refine PySem.W.callWith_K (h₀ := X.base) I.ok.mod.kin M.kp (thn (ha.run pos pins s σ H _ I h) ?_) he hpl
  rintro us s1 ⟨vs, H1, I1, r, q⟩
  refine ⟨I1.kIn, ?_⟩
  have hq := q (s1.heap.objs.size + 1) s1.heap.objs.size (I1.hok.fresh (Nat.le_succ _)) (I1.hok.fresh (Nat.le_refl _)) (Nat.ne_of_lt (Nat.lt_succ_self _))
  have I2 := Inv.made (C := C) I1
  have r2 : Vals (V.ref (s1.heap.objs.size + 1) :: vs) (Value.ref (s1.heap.objs.size + 1) :: us) := .cons rfl r
  have hl : (Value.ref (s1.heap.objs.size + 1) :: us).length = ps.length := by
    rw [← r2.length]
    exact F.len _ _ _ _ hq
  have bd := hb _ (Value.ref (s1.heap.objs.size + 1) :: us) I2.kIn (by rw [List.append_nil]; exact hl)
  rw [List.append_nil] at bd
  have run := F.run _ X.stack _ _ ⟨Value.ref (s1.heap.objs.size + 1) :: us, []⟩ (Value.ref (s1.heap.objs.size + 1) :: us) _ _ (E σ) (hr.make C us []) (I2.env0.make C us []) bd r2 hq
  refine wpAny_call (make_map (f := f) I1.kIn M.makes M.init (beq_iff_eq.mp M.fn) (codeAny_mono run ?_))
  intro r s' hq'
  rcases r with er | fl
  · exact hx σ pins _ _ er s' I2 hq'
  · cases fl with
    | ret u =>
      obtain ⟨v, H', I3, rv, ev, q3⟩ := I2.after hq'
      subst ev
      exact ⟨rv, V.ref (s1.heap.objs.size + 1), H', I3, rfl, q3⟩
    | next => exact hq'.elim
    | brk => exact hq'.elim
    | cont => exact hq'.elim
end
/-! ### == by the text's own __eq__ -/
def rEqOwn (C : Addr) (sp : Sp) (E : XK) : R2 := fun x y H Q => ∃ a b dx fs, x = .ref a ∧ y = .ref b ∧ H a = some (.ins C dx fs) ∧ ((∃ dy gs, H b = some (.ins C dy gs)) ∨ ∃ ys, H b = some (.tup ys)) ∧ sp [x, y] H (fun v H' => (∃ c, v = .bl c) ∧ Q v H') E
theorem op_eqOwn {X : Cx} {CX : CXT} {n : Nat} {C f : Addr} {fd : FuncData} {ps : List Str} {sp : Sp} {E : XK} (F : FnOk X.prog X.w X.K X.mg X.base CX n f fd ps sp)
    (hs : PySem.W.findIn X.K (.ref C) "__eq__" = some (some (.ref f))) (hf : PySem.W.isFn X.K (.ref f) = true) (hb : Binds X.K fd ps []) (hx : Passes CX X E) (hr : Room n X.A)
    (hn : PySem.W.notFirst X.K C (.type "tuple") = true) : OpR X (compareOp .Eq) (rEqOwn C sp E) := by
  intro pins s σ H x y v u Q I rx ry ⟨a, b, dx, fs, ex, ey, ha, hy, q⟩
  subst ex
  subst ey
  obtain rfl : v = Value.ref a := rx
  obtain rfl : u = Value.ref b := ry
  show wpAny (model X.prog X.w) X.A (richCompare .Eq (.ref a) (.ref b)) (EP X pins σ Q) X.xe s
  obtain ⟨mA, J, _⟩ := ins_get I.hok ha
  obtain ⟨od, J, _⟩ := J.look
  obtain ⟨m, hF⟩ := I.fr
  have r2 : Vals [V.ref a, V.ref b] [Value.ref a, Value.ref b] := .cons rfl (.cons rfl .nil)
  have fin : wpAny (model X.prog X.w) X.A (call (.ref f) [.ref a, .ref b]) (PySem.W.CmpBack (EP X pins σ Q)) X.xe s := by
    refine wpAny_mono (run_fn (dvs := []) (ds := []) (us := [.ref a, .ref b]) (vs := [.ref a, .ref b]) F hr hb .nil hx I r2 q) ?_ fun _ _ z => z
    rintro w s' ⟨z, H', I', rz, ⟨c, rfl⟩, qz⟩
    obtain rfl : w = Value.bool c := rz
    exact ⟨V.bl c, H', I', rfl, qz⟩
  rcases hy with ⟨dy, gs, hb'⟩ | ⟨ys, hb'⟩
  · obtain ⟨mB, J', _⟩ := ins_get I.hok hb'
    obtain ⟨od', J', _⟩ := J'.look
    exact PySem.W.cmp_K (op := .Eq) (tb := .ref C) hr.units0 hF I.ok.mod.kin J J'.type (by simp [PySem.W.notFirst]) hs hf fin
  · obtain ⟨its, rv, ⟨o, h1, h2, _⟩, _⟩ := I.tuple (SqT.of hb')
    have LT : PySem.W.Looks (model X.prog X.w) s.heap (typeOf (.ref b)) (.type "tuple") := fun A Q E s k q => wpAny_typeOf_ref (k _ _ h1) (by rw [h2]; exact q)
    exact PySem.W.cmp_K (op := .Eq) (tb := .type "tuple") hr.units0 hF I.ok.mod.kin J LT hn hs hf fin
/-! ### == of data -/
theorem eqv_ints : ∀ ns ms : List Int, PyData.eqvAll (ns.map PyData.int) (ms.map PyData.int) = decide (ns = ms)
  | [], [] => by simp [PyData.eqvAll]
  | [], m :: ms => by simp [PyData.eqvAll]
  | n :: ns, [] => by simp [PyData.eqvAll]
  | n :: ns, m :: ms => by
    have ih := eqv_ints ns ms
    simp only [List.map_cons, PyData.eqvAll, PyData.eqv, ih]
    by_cases h : n = m
    · by_cases h2 : ns = ms
      · simp [h, h2]
      · simp [h, h2]
    · simp [h]
theorem dp_ints {K : PySem.W.Frag} {H : Hp} : ∀ ns : List Int, DpAll K H (ns.map V.int) (ns.map PyData.int)
  | [] => .nil
  | n :: ns => .cons (.int n) (dp_ints ns)
theorem ints_lay : ∀ ns : List Int, PyData.canLayAll0 (ns.map PyData.int) = true
  | [] => by simp [PyData.canLayAll0]
  | n :: ns => by
    have ih := ints_lay ns
    simp only [List.map_cons, PyData.canLayAll0, ih, PyData.canLay0, Bool.and_self]
theorem ints_depth : ∀ ns : List Int, PyData.depthAll (ns.map PyData.int) ≤ 1
  | [] => by simp [PyData.depthAll]
  | n :: ns => by
    have ih := ints_depth ns
    simp only [List.map_cons, PyData.depthAll, PyData.depth]
    omega
theorem shaped_li (ns : List Int) : SeqAt.shaped (.list (ns.map PyData.int)) = true := by
  have h := ints_depth ns
  show (PyData.canLay0 (.list (ns.map PyData.int)) && decide (PyData.depth (.list (ns.map PyData.int)) ≤ 64)) = true
  rw [Bool.and_eq_true]
  refine ⟨by simp only [PyData.canLay0]; exact ints_lay ns, decide_eq_true ?_⟩
  simp only [PyData.depth]
  omega
theorem shaped_ti (ns : List Int) : SeqAt.shaped (.tuple (ns.map PyData.int)) = true := by
  have h := ints_depth ns
  show (PyData.canLay0 (.tuple (ns.map PyData.int)) && decide (PyData.depth (.tuple (ns.map PyData.int)) ≤ 64)) = true
  rw [Bool.and_eq_true]
  refine ⟨by simp only [PyData.canLay0]; exact ints_lay ns, decide_eq_true ?_⟩
  simp only [PyData.depth]
  omega
theorem eqv_li (ns ms : List Int) : PyData.eqv (.list (ns.map PyData.int)) (.list (ms.map PyData.int)) = decide (ns = ms) := by
  simp only [PyData.eqv]
  exact eqv_ints ns ms
theorem eqv_ti (ns ms : List Int) : PyData.eqv (.tuple (ns.map PyData.int)) (.tuple (ms.map PyData.int)) = decide (ns = ms) := by
  simp only [PyData.eqv]
  exact eqv_ints ns ms
end J

set_option Elab.async false
set_option linter.all false
set_option maxRecDepth 100000
set_option maxHeartbeats 4000000
namespace J
open PySem PySem.Spec PyProof.Rows L2
/-! ### backs that are drawn: the mathematics -/
structure BI (m : Nat) (ns ls : List Int) : Prop where
  len : ns.length = m
  rng : ∀ n ∈ ns, 0 ≤ n ∧ n < (m : Nat)
  inv : ∀ (k : Nat) (b : Int), ns[k]? = some b → ns[b.toNat]? = some (k : Int)
  nd : ls.Nodup
  fx : ∀ z ∈ ls, 0 ≤ z ∧ z < (m : Nat) ∧ ns[z.toNat]? = some z
theorem map_erase {α β : Type} (f : α → β) : ∀ (l : List α) (k : Nat), (l.map f).eraseIdx k = (l.eraseIdx k).map f
  | [], _ => rfl
  | a :: l, 0 => rfl
  | a :: l, k + 1 => by
    show f a :: (l.map f).eraseIdx k = f a :: (l.eraseIdx k).map f
    rw [map_erase f l k]
theorem erase_mem {l : List Int} (nd : l.Nodup) {i : Nat} {a z : Int} (ha : l[i]? = some a) (hz : z ∈ l.eraseIdx i) : z ∈ l ∧ z ≠ a := by
  obtain ⟨j, hj, e⟩ := List.mem_eraseIdx_iff_getElem?.mp hz
  refine ⟨List.mem_of_getElem? e, fun q => hj ?_⟩
  subst q
  exact nd_ix nd e ha
theorem BI.step {m : Nat} {ns ls : List Int} (B : BI m ns ls) {i j : Nat} {a b : Int} (ha : ls[i]? = some a) (hb : (ls.eraseIdx i)[j]? = some b) : BI m ((ns.set a.toNat b).set b.toNat a) ((ls.eraseIdx i).eraseIdx j) := by
  have nd1 : (ls.eraseIdx i).Nodup := B.nd.sublist (List.eraseIdx_sublist ls i)
  obtain ⟨mb, nab⟩ := erase_mem B.nd ha (List.mem_of_getElem? hb)
  have ma := List.mem_of_getElem? ha
  obtain ⟨a0, a1, af⟩ := B.fx a ma
  obtain ⟨b0, b1, bf⟩ := B.fx b mb
  have nt : b.toNat ≠ a.toNat := by omega
  have la : a.toNat < ns.length := by rw [B.len]; omega
  have lb : b.toNat < ns.length := by rw [B.len]; omega
  have get : ∀ k : Nat, ((ns.set a.toNat b).set b.toNat a)[k]? = if b.toNat = k then some a else if a.toNat = k then some b else ns[k]? := fun k => by
    rw [List.getElem?_set]
    split
    · rw [List.length_set, if_pos (by omega)]
    · rw [List.getElem?_set]
      split
      · first
          | rfl
          | rw [if_pos (by omega)]
      · rfl
  refine ⟨by rw [List.length_set, List.length_set]; exact B.len, fun n hn => ?_, fun k c hc => ?_, nd1.sublist (List.eraseIdx_sublist _ j), fun z hz => ?_⟩
  · rcases List.mem_or_eq_of_mem_set hn with hn | rfl
    · rcases List.mem_or_eq_of_mem_set hn with hn | rfl
      · exact B.rng n hn
      · exact ⟨b0, b1⟩
    · exact ⟨a0, a1⟩
  · rw [get] at hc
    split at hc
    · rename_i e
      obtain rfl := Option.some.inj hc
      rw [get, if_neg nt, if_pos rfl]
      congr 1
      omega
    · rename_i e1
      split at hc
      · rename_i e2
        obtain rfl := Option.some.inj hc
        rw [get, if_pos rfl]
        congr 1
        omega
      · rename_i e2
        have q := B.inv k c hc
        rw [get, if_neg, if_neg]
        · exact q
        · intro e
          rw [← e, af] at q
          have := Option.some.inj q
          omega
        · intro e
          rw [← e, bf] at q
          have := Option.some.inj q
          omega
  · obtain ⟨z1, zb⟩ := erase_mem nd1 hb hz
    obtain ⟨z2, za⟩ := erase_mem B.nd ha z1
    obtain ⟨c0, c1, cf⟩ := B.fx z z2
    refine ⟨c0, c1, ?_⟩
    rw [get, if_neg (by omega), if_neg (by omega)]
    exact cf
def idI (m : Nat) : List Int := (List.range m).map fun i => ((i : Nat) : Int)
theorem idI_at {m k : Nat} {b : Int} (h : (idI m)[k]? = some b) : b = k ∧ k < m := by
  unfold idI at h
  rw [List.getElem?_map] at h
  have hk : k < m := by
    have q := (List.getElem?_eq_some_iff.mp (by rw [← List.getElem?_map] at h; exact h)).1
    simpa using q
  rw [List.getElem?_range hk] at h
  exact ⟨(Option.some.inj h).symm, hk⟩
theorem idI_get {m k : Nat} (h : k < m) : (idI m)[k]? = some (k : Int) := by
  unfold idI
  rw [List.getElem?_map, List.getElem?_range h]
  rfl
theorem BI.start (m : Nat) : BI m (idI m) (idI m) := by
  have mem : ∀ n ∈ idI m, 0 ≤ n ∧ n < (m : Nat) := fun n hn => by
    obtain ⟨k, hk⟩ := List.getElem?_of_mem hn
    obtain ⟨rfl, h⟩ := idI_at hk
    omega
  refine ⟨by simp [idI], mem, fun k b hb => ?_, ?_, fun z hz => ?_⟩
  · obtain ⟨rfl, h⟩ := idI_at hb
    exact idI_get (by omega)
  · unfold idI
    exact List.Pairwise.map _ (fun a b (h : a ≠ b) => by omega) List.nodup_range
  · obtain ⟨h1, h2⟩ := mem z hz
    refine ⟨h1, h2, ?_⟩
    rw [idI_get (by omega)]
    congr 1
    omega
theorem rgV_id {m : Int} (h : 0 ≤ m) : rgV 0 m = (idI m.toNat).map V.int := by
  unfold rgV idI
  rw [List.map_map, show m - 0 = m by omega]
  refine List.map_congr_left fun i _ => ?_
  show V.int (0 + (i : Int)) = V.int (i : Int)
  rw [Int.zero_add]
theorem seq_at {i : Int} {n : Nat} (h0 : 0 ≤ i) (h : i < (n : Nat)) : seqIndex? i n = some i.toNat := by
  have h1 : ixN n i = some i.toNat := by
    unfold ixN
    rw [if_pos h0, if_pos h]
  exact (ixN_seq h1).1
theorem ixN_at {i : Int} {n : Nat} (h0 : 0 ≤ i) (h : i < (n : Nat)) : ixN n i = some i.toNat := by
  unfold ixN
  rw [if_pos h0, if_pos h]
abbrev s_Lbacks : Stmt := top 32
theorem sc_Lbacks : FnScope ["_law_hand_here", "_law_many", "_law_backs_here", "_law_left", "_law_k", "_law_one", "_law_other"] ["_law_hand_here", "_law_many"] (defScope s_Lbacks) := ⟨rfl, rfl, rfl, by decide +kernel, rfl, by decide +kernel, by decide +kernel⟩
def spBacks : Sp := fun vs H Q _ => ∃ (h q : Addr) (m : Int), vs = [.ref h, .int m] ∧ 2 ≤ m ∧ m ≤ 4 ∧ Hand H h q ∧ ∀ (ns : List Int) (p : Addr) (H' : Hp), (ns.length : Nat) = m → GoodB ns → But h H H' → H p = none → H' p = some (.lst (ns.map V.int)) → Hand H' h q → Q (.ref p) H'
theorem Hand.h_ne {H : Hp} {h q p : Addr} (x : Hand H h q) (n : H p = none) : h ≠ p ∧ q ≠ p := by
  obtain ⟨cs, i, r, t, e1, e2, _⟩ := x
  exact ⟨ne_of_none e1 n, ne_of_none e2 n⟩
theorem But.put2 {h p : Addr} {H H' : Hp} {o : HO} (B : But h H H') (n : H p = none) : But h H (upd H' p o) := fun b u nb e => by
  rw [upd_ne (ne_of_none e n)]
  exact B b u nb e
section
variable {P : Program} {w : World} {K : PySem.W.Frag} {mg : Str → Option Value} {base : Heap}
theorem ok_Lbacks {f fD : Addr} {fd fdD : FuncData} (F : Fun K "_law_backs" "_law_backs" s_Lbacks f fd) (nli : mg "list" = none) (nl : mg "len" = none) (nr : mg "range" = none)
    (GD : Cal P w K mg base CX0 2 "_law_draw" fD fdD ["_law_hand_here", "_law_many"] spDraw) : FnOk P w K mg base CX0 3 f fd ["_law_hand_here", "_law_many"] spBacks := by
  refine F.ok sc_Lbacks (fun vs H Q E h => ?_) (fun cdv A outer s H vs Q E hr h => ?_)
  · obtain ⟨h, q, m, rfl, _⟩ := h
    rfl
  · obtain ⟨h, q, m, rfl, m2, m4, hh, k⟩ := h
    refine ⟨_, (pss_cons 
  (ps_set (i := 2) sc_Lbacks.nd rfl (Or.inl rfl) (pe_listRg rfl (by rfl) nli (prg_1 (by rfl) nr (pv 1)))) (pss_cons 
  (ps_set (i := 3) sc_Lbacks.nd rfl (Or.inl rfl) (pe_listRg rfl (by rfl) nli (prg_1 (by rfl) nr (pv 1)))) (pss_cons 
  (ps_for PassesOwn.never rfl (pi_range1 (by rfl) nr (pa_cons (pe_op op_fdiv (pv 1) pe_int) pa_nil)) (pg_name (i := 4) sc_Lbacks.nd rfl (Or.inl rfl)) (pss_one 
    (ps_if (pt_cmpR op_eq (pcal GD hr pass0 (pa_cons (pv 0) (pa_cons pe_int pa_nil))) pe_int (nomark _)) (pss_cons 
      (ps_set (i := 5) sc_Lbacks.nd rfl (Or.inl rfl) (pe_bm PySem.F.plainAttrs_list PySem.F.slot_list_pop PySem.F.type_list_pop mt_popAt (pv 3) (pa_cons (pcal GD hr pass0 (pa_cons (pv 0) (pa_cons (pe_callB call_len_seq (by rfl) nl PySem.boot_len (pa_cons (pv 3) pa_nil)) pa_nil))) pa_nil))) (pss_cons 
      (ps_set (i := 6) sc_Lbacks.nd rfl (Or.inl rfl) (pe_bm PySem.F.plainAttrs_list PySem.F.slot_list_pop PySem.F.type_list_pop mt_popAt (pv 3) (pa_cons (pcal GD hr pass0 (pa_cons (pv 0) (pa_cons (pe_callB call_len_seq (by rfl) nl PySem.boot_len (pa_cons (pv 3) pa_nil)) pa_nil))) pa_nil))) (pss_cons 
      (ps_asg (pv 6) (pg_sub (pv 2) (pv 5) set_list)) (pss_one 
      (ps_asg (pv 5) (pg_sub (pv 2) (pv 6) set_list)))))) pss_nil))) (pss_one 
  (ps_ret (pv 2)))))), ?_⟩
    have rg : RgOk 0 m := RgOk.of_le (by omega) (by omega) (by omega) (by omega)
    refine ⟨_, rfl, m, rfl, rg, fun p hp => ?_⟩
    refine ⟨_, rfl, m, rfl, rg, fun l hl => ?_⟩
    rw [rgV_id (by omega)]
    rw [rgV_id (by omega)] at hl
    have npl : p ≠ l := ne_of_none upd_same hl
    have hl0 : H l = none := by
      rw [upd_ne npl.symm] at hl
      exact hl
    obtain ⟨nhp, nqp⟩ := hh.h_ne hp
    obtain ⟨nhl, nql⟩ := hh.h_ne hl0
    refine ⟨_, rfl, _, _, rfl, rfl, ⟨by decide, by decide⟩, _, rfl, by omega, by omega, for_range (lo := 0) (n := (m / 2).toNat) (fun i σ H' => ∃ (ns ls : List Int) (v4 v5 v6 : Option V), σ = [some (.ref h), some (.int m), some (.ref p), some (.ref l), v4, v5, v6] ∧
        BI m.toNat ns ls ∧ m.toNat ≤ ls.length + 2 * i ∧ ls.length ≤ m.toNat ∧ But h H H' ∧ Hand H' h q ∧ H' p = some (.lst (ns.map V.int)) ∧ H' l = some (.lst (ls.map V.int)))
      ⟨idI m.toNat, idI m.toNat, none, none, none, rfl, BI.start _, by simp [idI], by simp [idI], ((But.refl h H).put2 hp).put2 hl0, (hh.put nhp nqp).put nhl nql, by rw [upd_ne npl, upd_same], upd_same⟩ ?_ ?_⟩
    · rintro i σ H1 hi ⟨ns, ls, v4, v5, v6, rfl, B, hc, lsm, b1, h1, ep, el⟩
      have hls : 2 ≤ ls.length := by omega
      refine ⟨_, rfl, h, q, 3, rfl, by decide, by decide, h1, fun v H2 v0 v3 b2 h2 => ⟨rfl, _, rfl, ?_⟩⟩
      refine ifD (fun c => ?_) (fun c => ⟨ns, ls, _, _, _, rfl, B, by omega, lsm, b1.trans b2, h2, b2 _ _ nhp.symm ep, b2 _ _ nhl.symm el⟩)
      have ep2 := b2 _ _ nhp.symm ep
      have el2 := b2 _ _ nhl.symm el
      have lml : (ls.map V.int).length = ls.length := List.length_map _
      refine ⟨_, rfl, .inl ⟨rfl, _, SqL.of el2⟩, _, rfl, _, rfl, l, _, rfl, .inl (SqL.of el2), h, q, _, rfl, by omega, by omega, h2, fun a H3 a0 a1 b3 h3 => ?_⟩
      have ep3 := b3 _ _ nhp.symm ep2
      have el3 := b3 _ _ nhl.symm el2
      rw [lml] at a1
      have hla : a.toNat < ls.length := by omega
      have hA : ls[a.toNat]? = some ls[a.toNat] := List.getElem?_eq_getElem hla
      generalize ls[a.toNat] = x at hA
      refine ⟨l, _, a, a.toNat, .int x, rfl, rfl, el3, by omega, by omega, seq_at a0 (by omega), ints_at hA, ?_⟩
      rw [map_erase]
      have e1 : (upd H3 l (.lst ((ls.eraseIdx a.toNat).map V.int))) l = some (.lst ((ls.eraseIdx a.toNat).map V.int)) := upd_same
      have ep4 : (upd H3 l (.lst ((ls.eraseIdx a.toNat).map V.int))) p = some (.lst (ns.map V.int)) := by rw [upd_ne npl]; exact ep3
      have h4 : Hand (upd H3 l (.lst ((ls.eraseIdx a.toNat).map V.int))) h q := h3.put nhl nql
      have b4 : But h H (upd H3 l (.lst ((ls.eraseIdx a.toNat).map V.int))) := ((b1.trans b2).trans b3).put2 hl0
      have le : (ls.eraseIdx a.toNat).length = ls.length - 1 := by rw [List.length_eraseIdx, if_pos hla]
      have lml2 : ((ls.eraseIdx a.toNat).map V.int).length = ls.length - 1 := by rw [List.length_map, le]
      generalize upd H3 l (.lst ((ls.eraseIdx a.toNat).map V.int)) = H4 at e1 ep4 h4 b4
      refine ⟨_, rfl, .inl ⟨rfl, _, SqL.of e1⟩, _, rfl, _, rfl, l, _, rfl, .inl (SqL.of e1), h, q, _, rfl, by omega, by omega, h4, fun b H5 b0' b1' b5 h5 => ?_⟩
      have ep5 := b5 _ _ nhp.symm ep4
      have el5 := b5 _ _ nhl.symm e1
      rw [lml2] at b1'
      have hlb : b.toNat < (ls.eraseIdx a.toNat).length := by omega
      have hB : (ls.eraseIdx a.toNat)[b.toNat]? = some (ls.eraseIdx a.toNat)[b.toNat] := List.getElem?_eq_getElem hlb
      generalize (ls.eraseIdx a.toNat)[b.toNat] = y at hB
      refine ⟨l, _, b, b.toNat, .int y, rfl, rfl, el5, by omega, by omega, seq_at b0' (by omega), ints_at hB, ?_⟩
      rw [map_erase]
      have B2 := B.step hA hB
      obtain ⟨x0, x1, _⟩ := B.fx x (List.mem_of_getElem? hA)
      obtain ⟨y0, y1, _⟩ := B.fx y (erase_mem B.nd hA (List.mem_of_getElem? hB)).1
      have lns := B.len
      have ep6 : (upd H5 l (.lst (((ls.eraseIdx a.toNat).eraseIdx b.toNat).map V.int))) p = some (.lst (ns.map V.int)) := by rw [upd_ne npl]; exact ep5
      refine ⟨_, rfl, _, rfl, _, rfl, p, _, _, x.toNat, rfl, rfl, ep6, ixN_at x0 (by rw [List.length_map]; omega), ?_⟩
      refine ⟨_, rfl, _, rfl, _, rfl, p, _, _, y.toNat, rfl, rfl, upd_same, ixN_at y0 (by rw [List.length_set, List.length_map]; omega), ?_⟩
      refine ⟨_, _, _, _, _, rfl, B2, ?_, ?_, ?_, ?_, ?_, ?_⟩
      · rw [List.length_eraseIdx, if_pos hlb, le]
        omega
      · rw [List.length_eraseIdx, if_pos hlb, le]
        omega
      · exact (((b4.trans b5).put2 hl0).put2 hp).put2 hp
      · exact (((h5.put nhl nql).put nhp nqp).put nhp nqp)
      · rw [upd_same, List.map_set, List.map_set]
      · rw [upd_ne npl.symm, upd_ne npl.symm, upd_same]
    · rintro σ H1 ⟨ns, ls, v4, v5, v6, rfl, B, hc, lsm, b1, h1, ep, el⟩
      have lns := B.len
      refine ⟨_, rfl, k ns p H1 (by omega) ⟨by omega, by omega, fun n hn => ?_, B.inv⟩ b1 hp ep h1⟩
      have := B.rng n hn
      omega
end
end J

set_option Elab.async false
set_option linter.all false
set_option maxRecDepth 100000
set_option maxHeartbeats 4000000
namespace J
open PySem PySem.Spec PyProof.Rows L2
/-! ### list comprehensions of any number of clauses, none with tests -/
abbrev lcE (elt : Expr) (gens : List Comprehension) (scope : Scope) (pos : Pos) : Expr := .ListComp elt gens scope pos
section
variable {prog : Program} {w : World} {A : Around} {R : Result → Shared → Prop} {s : Shared} {elt : Expr} {gens : List Comprehension} {scope : Scope} {pos : Pos} {it acc : Value} {env : Env} {d : Nat} {t i : Expr}
/-- the raising ways of a turn -/
abbrev Nw (prog : Program) (w : World) (A : Around) (env : Env) (R : Result → Shared → Prop) : Value → Shared → Prop := notedBy (model prog w) A env fun e s' => R (.error e) s'
/-- what a turn does behind its store: the next clause, or the item -/
def Rest (prog : Program) (w : World) (A : Around) (elt : Expr) (gens : List Comprehension) (scope : Scope) (pos : Pos) (d : Nat) (acc : Value) (env : Env) (N : Value → Shared → Prop) (B : Shared → Prop) (s : Shared) : Prop :=
  match gens[d + 1]? with
  | some g => g.is_async = 0 ∧ (∀ x, foldedSetIterable g.iter env x = pure x) ∧ wpAny (model prog w) A (eval g.iter env) (fun x s1 => wpAny (model prog w) A (pyIter x) (fun it1 s2 =>
      codeAny (model prog w) A (.compStart (lcE elt gens scope pos) (d + 1) it1 acc env) (fun r s' => match r with
        | .ok _ => B s'
        | .error _ => False) s2) N s1) N s
  | none => wpAny (model prog w) A (eval elt env) (fun x s1 => wpAny (model prog w) A (call (.builtin "list.append") [acc, x]) (fun _ s2 => B s2) N s1) N s
theorem loop_at (hg : gens[d]? = some ⟨t, i, [], 0⟩) (I : Nat → Shared → Prop)
    (turn : ∀ n s, I n s → wpAny (model prog w) A (pyNext it) (fun r s₁ => match r with
      | none => R (.ok .next) s₁
      | some v => wpAny (model prog w) A (letOwnedTupleGo t it v) (fun _ s₂ => wpAny (model prog w) A (assign t env v) (fun _ s₃ => Rest prog w A elt gens scope pos d acc env (Nw prog w A env R) (fun s' => ∃ m, m < n ∧ I m s') s₃) (Nw prog w A env R) s₂) (Nw prog w A env R) s₁) (Nw prog w A env R) s)
    (n : Nat) (h : I n s) : codeAny (model prog w) A (.compLoop (lcE elt gens scope pos) d it acc env) R s := by
  refine codeAny_loop rfl I (fun n s hI => ?_) n h
  show wpAny _ A ((compTurn (lcE elt gens scope pos) d it acc env).onRaise (fun x => do noteFrame x env; theTreesLotGoes x)) _ _ s
  refine wpAny_noted ?_
  unfold compTurn lcE
  dsimp only
  rw [hg]
  dsimp only
  refine wpAny_bind (wpAny_standAt (wpAny_bind ?_))
  show wpAny _ A (pyNext it) _ _ _
  refine wpAny_mono (turn n s hI) (fun r s₁ h₁ => ?_) fun _ _ h' => h'
  cases r with
  | none => exact wpAny_pure h₁
  | some v =>
    refine wpAny_bind (wpAny_mono h₁ (fun _ s₂ h₂ => wpAny_bind (wpAny_mono h₂ (fun _ s₃ h₃ => ?_) fun _ _ h' => h')) fun _ _ h' => h')
    refine wpAny_bind ?_
    rw [List.forIn_nil]
    refine wpAny_pure ?_
    unfold Rest at h₃
    rw [if_pos rfl]
    split at h₃
    · rename_i g' eg
      rw [eg]
      obtain ⟨ha, hs, h₃⟩ := h₃
      dsimp only
      refine wpAny_bind (wpAny_mono h₃ (fun x s₄ h₄ => ?_) fun _ _ h' => h')
      refine wpAny_bind (wpAny_standAt ?_)
      have a0 : (g'.is_async != 0) = false := by rw [ha]; rfl
      simp only [a0, Bool.false_eq_true, if_false]
      refine wpAny_bind (wpAny_of_eq (hs x) (wpAny_bind (wpAny_holding (wpAny_mono h₄ (fun it1 s₅ h₅ => ?_) fun _ _ h' => h'))))
      refine wpAny_bind (wpAny_runOwn ?_)
      rw [Around.mark_none]
      refine codeAny_mono h₅ fun r s' hr => ?_
      cases r with
      | ok f =>
        first
          | exact wpAny_pure ⟨rfl, hr⟩
          | exact wpAny_bind (wpAny_pure (wpAny_pure ⟨rfl, hr⟩))
      | error e => exact hr.elim
    · rename_i eg
      rw [eg]
      exact wpAny_bind (wpAny_bind (wpAny_mono h₃ (fun x s₄ h₄ => wpAny_bind (wpAny_mono h₄ (fun _ s₅ h₅ => wpAny_pure (wpAny_pure ⟨rfl, h₅⟩)) fun _ _ h' => h')) fun _ _ h' => h'))
theorem start_at (hg : gens[d]? = some ⟨t, i, [], 0⟩) (h0 : codeAny (model prog w) A (.compLoop (lcE elt gens scope pos) d it acc env) R s)
    (h : wpAny (model prog w) A (pyIter it) (fun it' s' => codeAny (model prog w) A (.compLoop (lcE elt gens scope pos) d it' acc env) R s') (Nw prog w A env R) s) :
    codeAny (model prog w) A (.compStart (lcE elt gens scope pos) d it acc env) R s := by
  refine codeAny_of_tree ?_
  have e1 : (clausesOf (lcE elt gens scope pos))[d]? = some ⟨t, i, [], 0⟩ := hg
  show wpAny _ _ ((compStart (lcE elt gens scope pos) d it acc env).onRaise (fun x => do noteFrame x env; standAt theWindowsPlace)) _ _ s
  refine wpAny_notedAt ?_
  unfold compStart
  rw [e1]
  show wpAny _ _ (ask >>= _) _ _ s
  refine wpAny_bind (wpAny_askSetting (wpAny_ite ?_))
  split
  · first
      | exact wpAny_bind (wpAny_pure (wpAny_pure (And.intro rfl h0)))
      | exact wpAny_pure (And.intro rfl h0)
  · have fin := wpAny_mono h (fun it' s' h' => (wpAny_pure (And.intro rfl h') : wpAny (model prog w) A (again (.compLoop (lcE elt gens scope pos) d it' acc env)) (fun f s' => match f with | .done f => R (.ok f) s' | .again c' => c'.quiet = true ∧ codeAny (model prog w) A c' R s') (Nw prog w A env R) s')) fun _ _ x => x
    first
      | exact wpAny_bind (wpAny_rule (wpAny_bind (wpAny_standAt (wpAny_bind fin))))
      | (refine wpAny_bind (wpAny_rule ?_); show wpAny _ _ (standAt i.pos >>= _) _ _ s; exact wpAny_bind (wpAny_standAt (wpAny_bind fin)))
end
/-! ### in the words of the hand layer -/
abbrev TB := L2.St → Hp → (Hp → Prop) → Prop
/-- the item that is put behind the list at D -/
def bElt (te : TE) (D : Addr) : TB := fun σ H Nx => te σ H fun y H7 => ∃ acc, H7 D = some (.lst acc) ∧ acc.length < sizeLine ∧ Nx (upd H7 D (.lst (acc ++ [y])))
/-- a clause, and what stands behind it -/
def bFor (wi : TI) (g : TG) (vs : List Nat) (body : TB) : TB := fun σ H Nx => wi σ H fun J H4 => ∃ W : Nat → Nat → Hp → Prop, (∃ m, W 0 m H4) ∧ ∀ j k H, W j k H →
  (J.stop j H ∧ Nx H) ∨ (J.go j H ∧ ∃ N1 : Hp → Prop, (∀ H', N1 H' → ∃ k', k' < k ∧ W (j + 1) k' H') ∧ ∀ x H', J.yld j H x H' → g x (wipe σ vs) H' fun σ3 H5 => wipe σ3 vs = wipe σ vs ∧ body σ3 H5 N1)
/-- the body does what its word says, from a block's context; fs: the slots that it may forget -/
def Real (Y : Cx) (elt : Expr) (gens : List Comprehension) (scope : Scope) (pos : Pos) (d : Nat) (D : Addr) (fs : List Nat) (body : TB) : Prop :=
  ∀ (pins : List (Addr × Obj)) (σ : L2.St) (H : Hp) (s : Shared) (Nx : Hp → Prop) (N : Value → Shared → Prop), Inv Y pins σ H s → body σ H Nx →
    Rest Y.prog Y.w Y.A elt gens scope pos d (.ref D) Y.env N (fun s' => ∃ (σ' : L2.St) (H' : Hp), Inv Y pins σ' H' s' ∧ σ'.length = σ.length ∧ (∀ (j : Nat) v, j ∉ fs → σ[j]? = some (some v) → σ'[j]? = some (some v)) ∧ Nx H') s
section
variable {Y : Cx} {elt t i : Expr} {gens : List Comprehension} {scope : Scope} {pos : Pos} {d : Nat} {D : Addr} {te : TE} {wi : TI} {g : TG} {vs fs : List Nat} {body : TB}
theorem quiet {α : Type} {m : Sem α} {M : Model} {A : Around} {P P' : α → Shared → Prop} {E E' : Value → Shared → Prop} {s : Shared} (hE : ∀ v s, ¬ E v s) (h : wpAny M A m P E s) (hP : ∀ a s, P a s → P' a s) : wpAny M A m P' E' s := wpAny_mono h hP fun v s z => (hE v s z).elim
theorem real_elt (hx : ∀ v s, ¬ Y.xe v s) (hn : gens[d + 1]? = none) (he : PE Y elt te) : Real Y elt gens scope pos d D [] (bElt te D) := by
  intro pins σ H s Nx N I h
  unfold Rest
  rw [hn]
  refine quiet hx (he.run pins s σ H _ I h) fun z s1 ⟨yv, H1, I1, r1, acc, hD, hz, nx⟩ => ?_
  exact app_ok (X := Y) I1 hD hz r1 fun s2 I2 => ⟨σ, _, I2, rfl, fun j v _ e => e, nx⟩
theorem real_for (hx : ∀ v s, ¬ Y.xe v s) (hc : Y.calm = true) (hn : gens[d + 1]? = some ⟨t, i, [], 0⟩) (hs : ∀ x, foldedSetIterable i Y.env x = pure x) (hi : PI Y t i wi) (hg : PG Y t g) (hf : ∀ j ∈ fs, j ∈ vs)
    (hb : Real Y elt gens scope pos (d + 1) D fs body) : Real Y elt gens scope pos d D vs (bFor wi g vs body) := by
  intro pins σ H s Nx N I h
  unfold Rest
  rw [hn]
  refine ⟨rfl, hs, quiet hx (hi.run pins s σ H _ I h) fun xv s1 e1 => quiet hx e1 fun itv s2 e2 => ?_⟩
  obtain ⟨a, fp, tn, J, H2, rfl, I2, T, st2, f2, W, ⟨m0, w0⟩, turn⟩ := e2
  have stay : ∀ {H' : Hp}, (∀ b ∈ fp, H' b = none) → ∀ b ∈ fp, FpOk Y pins H' b := fun hn b hb => ⟨hn b hb, (f2 b hb).2⟩
  have wl : (wipe σ vs).length = σ.length := wipe_length _ _
  have lp : codeAny (model Y.prog Y.w) Y.A (.compLoop (lcE elt gens scope pos) (d + 1) (.ref a) (.ref D) Y.env)
      (fun r s' => match r with
        | .ok _ => ∃ (σ' : L2.St) (H' : Hp), Inv Y pins σ' H' s' ∧ σ'.length = σ.length ∧ (∀ (j : Nat) v, j ∉ vs → σ[j]? = some (some v) → σ'[j]? = some (some v)) ∧ Nx H'
        | .error _ => False) s2 := by
    refine loop_at hn (fun k s' => ∃ j H', Inv Y pins (wipe σ vs) H' s' ∧ tn j s'.heap ∧ (∀ b ∈ fp, H' b = none) ∧ W j k H') ?_ m0 ⟨0, H2, I2.weak wl (fun j v e => (wipe_some e).1), st2, fun b hb => (f2 b hb).1, w0⟩
    rintro k s3 ⟨j, H3, I3, st3, n3, w3⟩
    rcases turn j k H3 w3 with ⟨stop, nx⟩ | ⟨go, N1, hN, step⟩
    · refine quiet (fun _ _ z => z) (T.done Y rfl rfl rfl hc j pins s3 (wipe σ vs) H3 (fun _ _ => False) I3 (stay n3) st3 stop) fun r s4 ⟨hr, I4⟩ => ?_
      subst hr
      exact ⟨wipe σ vs, H3, I4, wl, fun j v hj e => by rw [wipe_out hj]; exact e, nx⟩
    · refine quiet (fun _ _ z => z) (T.item Y rfl rfl rfl hc j pins s3 (wipe σ vs) H3 (fun _ _ => False) I3 (stay n3) st3 go) fun r s4 ⟨u, hr, e4⟩ => ?_
      subst hr
      refine quiet (fun _ _ z => z) e4 fun _ s5 ⟨x, H5, I5, r5, y5, st5, n5⟩ => ?_
      have J5 := I5.pinned (stay n5) (T.obj _ _ st5)
      refine quiet hx (hg.run _ s5 (wipe σ vs) H5 x u _ J5 r5 (step x H5 y5)) fun _ s6 ⟨σ6, H6, I6, hw, q6⟩ => ?_
      have l6 : σ6.length = σ.length := by
        have := congrArg List.length hw
        rw [wipe_length, wipe_length] at this
        exact this
      have back := hb _ σ6 H6 s6 N1 (Nw Y.prog Y.w Y.A Y.env fun r s' => match r with
        | .ok _ => ∃ (σ' : L2.St) (H' : Hp), Inv Y pins σ' H' s' ∧ σ'.length = σ.length ∧ (∀ (j : Nat) v, j ∉ vs → σ[j]? = some (some v) → σ'[j]? = some (some v)) ∧ Nx H'
        | .error _ => False) I6 q6
      have fin : ∀ s', (∃ (σ' : L2.St) (H' : Hp), Inv Y (pins ++ pinsAt fp s5.heap) σ' H' s' ∧ σ'.length = σ6.length ∧ (∀ (j : Nat) v, j ∉ fs → σ6[j]? = some (some v) → σ'[j]? = some (some v)) ∧ N1 H') →
          ∃ m, m < k ∧ ∃ j H', Inv Y pins (wipe σ vs) H' s' ∧ tn j s'.heap ∧ (∀ b ∈ fp, H' b = none) ∧ W j m H' := by
        rintro s' ⟨σ', H', I', hl, hk, nx⟩
        obtain ⟨m', hm, w'⟩ := hN H' nx
        have held : ∀ b ∈ fp, ∀ o, s5.heap.get? b = some o → s'.heap.get? b = some o ∧ H' b = none := fun b hb o e =>
          ⟨(I'.pin (b, o) (List.mem_append_right _ (List.mem_append_right _ (mem_pinsAt hb e)))).1, (I'.pin (b, o) (List.mem_append_right _ (List.mem_append_right _ (mem_pinsAt hb e)))).2.1⟩
        refine ⟨m', hm, j + 1, H', I'.unpinned.weak (by rw [wl, hl, l6]) (fun n v e => ?_), T.keep _ _ _ st5 fun b hb o e => (held b hb o e).1, fun b hb => ?_, w'⟩
        · rw [← hw] at e
          obtain ⟨p1, p2⟩ := wipe_some e
          exact hk n v (fun z => p2 (hf n z)) p1
        · obtain ⟨o, e, _⟩ := T.obj _ _ st5 b hb
          exact (held b hb o e).2
      -- what the body leaves is the next turn
      unfold Rest at back ⊢
      split at back
      · rename_i g' eg
        try rw [eg]
        obtain ⟨b1, b2, b3⟩ := back
        refine ⟨b1, b2, wpAny_mono b3 (fun _ _ z => wpAny_mono z (fun _ _ y => codeAny_mono y fun r s' q => ?_) fun _ _ z => z) fun _ _ z => z⟩
        cases r with
        | ok f => exact fin s' q
        | error e => exact q
      · rename_i eg
        try rw [eg]
        exact wpAny_mono back (fun _ _ z => wpAny_mono z (fun _ s' q => fin s' q) fun _ _ z => z) fun _ _ z => z
  exact start_at hn lp (T.self Y.A 0 _ _ _ st2 lp)
end
/-- a whole comprehension: its first clause walked, the new list at D, the rest by its body -/
def tLcN (wi : TI) (g : TG) (body : Addr → TB) (vs : List Nat) : TE := fun σ H Q => wi σ H fun J H1 => ∀ D, H1 D = none → ∃ W : Nat → Nat → Hp → Prop, (∃ m, W 0 m (upd H1 D (.lst []))) ∧ ∀ j k H, W j k H →
  (J.stop j H ∧ Q (.ref D) H) ∨ (J.go j H ∧ ∃ N1 : Hp → Prop, (∀ H', N1 H' → ∃ k', k' < k ∧ W (j + 1) k' H') ∧ ∀ x H', J.yld j H x H' → g x (wipe σ vs) H' fun σ3 H5 => wipe σ3 vs = wipe σ vs ∧ body D σ3 H5 N1)
section
variable {X : Cx}
theorem pe_lcN {elt tg iter : Expr} {rest : List Comprehension} {scope : Scope} {own : List (Str × Nat)} {pos : Pos} {wi : TI} {g : TG} {body : Addr → TB} {fs : List Nat} (hc : X.calm = true) (hN : X.N.Nodup) (hi : PI X tg iter wi) (ok : BlkOk X.N X.env.scope scope own)
    (hg : ∀ (s : Shared) (H : Hp) (C : Addr) (cl : List (Str × Addr)) (fp : List Addr), PG (X.blk s H scope (compEnvC scope cl C X.env) fp) tg g)
    (hb : ∀ (s : Shared) (H : Hp) (C : Addr) (cl : List (Str × Addr)) (fp : List Addr) (D : Addr), Real (X.blk s H scope (compEnvC scope cl C X.env) fp) elt (⟨tg, iter, [], 0⟩ :: rest) scope pos 0 D fs (body D)) (hf : ∀ j ∈ fs, j ∈ own.map (·.2))
    (hs : ∀ x, foldedSetIterable iter X.env x = pure x := by intro _; rfl) : PE X (.ListComp elt (⟨tg, iter, [], 0⟩ :: rest) scope pos) (tLcN wi g body (own.map (·.2))) := by
  refine ⟨fun pins s σ H Q I h => ?_⟩
  rw [eval_ListComp]
  have fr : ∀ y ∈ scope.names, y.2 = .free → ∃ c, X.env.cells.lookup y.1 = some c := fun y hy e => (ok.free y hy e).elim (fun k => I.ok.has _ (.inl k)) fun k => I.ok.has _ (.inr k)
  refine wpAny_comprehension_free (use := none) rfl hs (closure_ok fr) ok.kind (fun y hy e => by rw [ok.uniq y hy, e])
    (thn (hi.run pins s σ H _ I h) fun xv s1 e1 => thn e1 fun itv s2 e2 => ?_)
  obtain ⟨a, fp, tn, J, H2, rfl, I2, T, st2, f2, q⟩ := e2
  refine wpAny_newObj_type (newEnv_comp ?_) (by show 0 ≤ sizeLine; decide)
  generalize eD : s2.heap.objs.size = D
  have nD : H2 D = none := I2.hok.fresh (Nat.le_of_eq eD)
  obtain ⟨W, ⟨m0, w0⟩, turn⟩ := q D nD
  generalize es3 : ({ s2 with heap := s2.heap.push { cls := .type "list", data := .seq ([] : List Value).toArray } } : Shared) = s3
  have hp3 : s3.heap = s2.heap.push { cls := .type "list", data := .seq ([] : List Value).toArray } := by rw [← es3]
  have I3 : Inv X pins σ (upd H2 D (.lst [])) s3 := by
    subst es3
    exact I2.laid (t' := s2.toks) (fun b o e => Heap.get?_push_of_some _ e) (Nat.le_of_eq eD) ⟨Nat.zero_le _, [], 0, .nil, by rw [← eD]; exact Heap.get?_push_size _ rfl⟩
  have low : ∀ b ∈ fp, b < s2.heap.objs.size := fun b hb => let ⟨o, e, _⟩ := T.obj _ _ st2 b hb; Heap.lt_size e
  have f3 : ∀ b ∈ fp, FpOk X pins (upd H2 D (.lst [])) b ∧ b < s3.heap.objs.size := fun b hb =>
    ⟨⟨by rw [upd_ne (by rw [← eD]; exact Nat.ne_of_lt (low b hb))]; exact (f2 b hb).1, (f2 b hb).2⟩, by rw [hp3, Heap.size_push]; exact Nat.lt_succ_of_lt (low b hb)⟩
  have st3 : tn 0 s3.heap := T.keep _ _ _ st2 fun b _ o e => by rw [hp3]; exact Heap.get?_push_of_some _ e
  have I4 := block_start I3 ok hN f3
  have G := hg s3 (upd H2 D (.lst [])) s3.heap.objs.size (cellsFrom (s3.heap.objs.size + 1) scope.names (cloFrom X.env.cells scope.names [])) fp
  have B := hb s3 (upd H2 D (.lst [])) s3.heap.objs.size (cellsFrom (s3.heap.objs.size + 1) scope.names (cloFrom X.env.cells scope.names [])) fp D
  have no3 : ∀ b ∈ fp, (upd H2 D (.lst [])) b = none := fun b hb => (f3 b hb).1.1
  show codeAny _ _ (.compStart (lcE elt (⟨tg, iter, [], 0⟩ :: rest) scope pos) 0 (.ref a) (.ref D) (compEnvC scope (cellsFrom (s3.heap.objs.size + 1) scope.names (cloFrom X.env.cells scope.names [])) s3.heap.objs.size X.env)) (compPost (model X.prog X.w) X.A X.xe none (EP X pins σ Q) (.ref D) s3.heap.objs.size) { s3 with heap := pushCells (s3.heap.push { cls := .type "dict", data := .dict #[] }) scope.names }
  generalize ece : compEnvC scope (cellsFrom (s3.heap.objs.size + 1) scope.names (cloFrom X.env.cells scope.names [])) s3.heap.objs.size X.env = ce at I4 G B ⊢
  have cl : ce.locals = s3.heap.objs.size := by subst ece; rfl
  generalize eH3 : upd H2 D (.lst []) = H3 at I3 I4 G B w0 no3 f3
  generalize es4 : ({ s3 with heap := pushCells (s3.heap.push { cls := .type "dict", data := .dict #[] }) scope.names } : Shared) = s4 at I4 ⊢
  have st4 : tn 0 s4.heap := T.keep _ _ _ st3 fun b _ o e => by rw [← es4]; exact pushCells_keeps _ _ _ _ (Heap.get?_push_of_some _ e)
  have stay : ∀ {σ' : L2.St} {H' : Hp} {s' : Shared}, Inv (X.blk s3 H3 scope ce fp) [] σ' H' s' → (∀ b ∈ fp, H' b = none) → ∀ b ∈ fp, FpOk (X.blk s3 H3 scope ce fp) [] H' b := fun {σ' H' s'} I' hn b hb =>
    ⟨hn b hb, (I'.ok.exf b hb).1, I'.ok.exfs b hb, .inl hb, fun x c e => (I'.ok.exf b hb).2 x c e, fun p hp => absurd (show p ∈ ([] : List (Addr × Obj)) ++ [] from hp) (by simp)⟩
  have hx : ∀ v s, ¬ (X.blk s3 H3 scope ce fp).xe v s := fun _ _ z => z
  have lp : codeAny (model X.prog X.w) X.A (.compLoop (lcE elt (⟨tg, iter, [], 0⟩ :: rest) scope pos) 0 (.ref a) (.ref D) ce) (compPost (model X.prog X.w) X.A X.xe none (EP X pins σ Q) (.ref D) s3.heap.objs.size) s4 := by
    refine loop_at (t := tg) (i := iter) rfl (fun k s' => ∃ j H', Inv (X.blk s3 H3 scope ce fp) [] (wipe σ (own.map (·.2))) H' s' ∧ tn j s'.heap ∧ (∀ b ∈ fp, H' b = none) ∧ W j k H') ?_ m0 ⟨0, H3, I4, st4, no3, w0⟩
    rintro k s5 ⟨j, H5, I5, st5, n5, w5⟩
    rcases turn j k H5 w5 with ⟨stop, qq⟩ | ⟨go, N1, hN1, step⟩
    · refine quiet (fun _ _ z => z) (T.done (X.blk s3 H3 scope ce fp) rfl rfl rfl hc j [] s5 _ H5 (fun _ _ => False) I5 (stay I5 n5) st5 stop) fun r s6 ⟨hr, I6⟩ => ?_
      subst hr
      have I7 : Inv X pins σ H5 s6 := I3.call' (ch := fp) I6.os I6.base I6.hok I6.bare fun b hb => ⟨(f3 b hb).1.2.2.2.1, (f3 b hb).1.2.1, (f3 b hb).1.2.2.2.2.1, (f3 b hb).1.2.2.2.2.2⟩
      have free : H5 s3.heap.objs.size = none := by
        have z : H5 ce.locals = none := I6.free
        rwa [cl] at z
      obtain ⟨m, hm, _⟩ := I6.loc
      have hm : s6.heap.Ns ce.locals m := hm
      rw [cl] at hm
      obtain ⟨g0, g1, g2, g3, g4, g5⟩ := I3.fpOk (Nat.le_refl _) free
      exact ⟨m, hm, fun h' sb => ⟨.ref D, H5, I7.turned (t' := s6.toks) (fun b o hb e => (sb.2 b hb).trans e) g0 g1 g3 g4 g5, rfl, qq⟩⟩
    · refine quiet (fun _ _ z => z) (T.item (X.blk s3 H3 scope ce fp) rfl rfl rfl hc j [] s5 _ H5 (fun _ _ => False) I5 (stay I5 n5) st5 go) fun r s6 ⟨u, hr, e6⟩ => ?_
      subst hr
      refine quiet (fun _ _ z => z) e6 fun _ s7 ⟨x, H7, I7, r7, y7, st7, n7⟩ => ?_
      have J7 := I7.pinned (stay I7 n7) (T.obj _ _ st7)
      refine quiet hx (G.run _ s7 _ H7 x u _ J7 r7 (step x H7 y7)) fun _ s8 ⟨σ8, H8, I8, hw, q8⟩ => ?_
      have back := B _ σ8 H8 s8 N1 (Nw X.prog X.w X.A ce fun r s' => compPost (model X.prog X.w) X.A X.xe none (EP X pins σ Q) (.ref D) s3.heap.objs.size r s') I8 q8
      have l8 : σ8.length = σ.length := by
        have := congrArg List.length hw
        rw [wipe_length, wipe_length] at this
        exact this
      have fin : ∀ s', (∃ (σ' : L2.St) (H' : Hp), Inv (X.blk s3 H3 scope ce fp) ([] ++ pinsAt fp s7.heap) σ' H' s' ∧ σ'.length = σ8.length ∧ (∀ (n : Nat) v, n ∉ fs → σ8[n]? = some (some v) → σ'[n]? = some (some v)) ∧ N1 H') →
          ∃ m, m < k ∧ ∃ j H', Inv (X.blk s3 H3 scope ce fp) [] (wipe σ (own.map (·.2))) H' s' ∧ tn j s'.heap ∧ (∀ b ∈ fp, H' b = none) ∧ W j m H' := by
        rintro s' ⟨σ', H', I', hl, hk, nx⟩
        obtain ⟨m', hm, w'⟩ := hN1 H' nx
        have held : ∀ b ∈ fp, ∀ o, s7.heap.get? b = some o → s'.heap.get? b = some o ∧ H' b = none := fun b hb o e =>
          ⟨(I'.pin (b, o) (List.mem_append_right _ (List.mem_append_right _ (mem_pinsAt hb e)))).1, (I'.pin (b, o) (List.mem_append_right _ (List.mem_append_right _ (mem_pinsAt hb e)))).2.1⟩
        refine ⟨m', hm, j + 1, H', (I'.unpinned (pins := [])).weak (by rw [wipe_length, hl, l8]) (fun n v e => ?_), T.keep _ _ _ st7 fun b hb o e => (held b hb o e).1, fun b hb => ?_, w'⟩
        · rw [← hw] at e
          obtain ⟨p1, p2⟩ := wipe_some e
          exact hk n v (fun z => p2 (hf n z)) p1
        · obtain ⟨o, e, _⟩ := T.obj _ _ st7 b hb
          exact (held b hb o e).2
      unfold Rest at back ⊢
      split at back
      · rename_i g' eg
        try rw [eg]
        obtain ⟨b1, b2, b3⟩ := back
        refine ⟨b1, b2, wpAny_mono b3 (fun _ _ z => wpAny_mono z (fun _ _ y => codeAny_mono y fun r s' q => ?_) fun _ _ z => z) fun _ _ z => z⟩
        cases r with
        | ok f => exact fin s' q
        | error e => exact q
      · rename_i eg
        try rw [eg]
        exact wpAny_mono back (fun _ _ z => wpAny_mono z (fun _ s' q => fin s' q) fun _ _ z => z) fun _ _ z => z
  exact codeAny_compStart_list lp (T.self X.A 0 _ _ _ st4 lp)
end
end J

set_option Elab.async false
set_option linter.all false
set_option maxRecDepth 100000
set_option maxHeartbeats 4000000
namespace J
open PySem PySem.Spec PyProof.Rows L2
abbrev rTup (K : PySem.W.Frag) : List V → Hp → VK → Prop := fun xs H Q => ∃ p ys, xs = [.ref p] ∧ ((SqL K H p ys ∧ ∀ l, H l = none → Q (.ref l) (upd H l (.tup ys))) ∨ (SqT K H p ys ∧ Q (.ref p) H))
abbrev rLen (K : PySem.W.Frag) : List V → Hp → VK → Prop := fun xs H Q => ∃ p ys, xs = [.ref p] ∧ (SqL K H p ys ∨ SqT K H p ys) ∧ Q (.int (ys.length : Nat)) H
abbrev rLst (K : PySem.W.Frag) : List V → Hp → VK → Prop := fun xs H Q => ∃ p ys, xs = [.ref p] ∧ (SqL K H p ys ∨ SqT K H p ys) ∧ ∀ l, H l = none → Q (.ref l) (upd H l (.lst ys))
/-! ### a three -/
def threeB (ns : List Int) : Sh → Bool
  | .lst xs => decide (xs.length = 3) && xs.all (tieB ns)
  | .tup xs => decide (xs.length = 3) && xs.all (tieB ns)
  | _ => false
theorem threeB_len {ns : List Int} {xs : List V} (h : ¬ xs.length = 3) : threeB ns (.lst xs) = false := by
  show (decide (xs.length = 3) && xs.all (tieB ns)) = false
  rw [decide_eq_false h]
  rfl
theorem threeB_all {ns : List Int} {xs : List V} (h : xs.length = 3) : threeB ns (.lst xs) = (xs.map (tieB ns)).all id := by
  show (decide (xs.length = 3) && xs.all (tieB ns)) = _
  rw [decide_eq_true h, List.all_map, Bool.true_and]
  rfl
theorem V.int_nat {n : Nat} (h : V.int ((n : Nat) : Int) = V.int 3) : n = 3 := by
  injection h with h
  omega
theorem ifB {c A B : Prop} [Decidable c] (h1 : ¬ c → A) (h2 : c → B) : if (!decide c) = true then A else B := by
  by_cases h : c
  · rw [decide_eq_true h]
    exact iteF (h2 h)
  · rw [decide_eq_false h]
    exact iteT (h1 h)
abbrev s_is_three : Stmt := top 16
theorem sc_is_three : FnScope ["ties", "thing", "tie"] ["ties", "thing"] (defScope s_is_three) := ⟨rfl, rfl, rfl, by decide +kernel, rfl, by decide +kernel, by decide +kernel⟩
def spThree (C : Addr) : Sp := fun vs H Q _ => ∃ (x : Addr) (ns : List Int) (v : V) (s : Sh), vs = [.ref x, v] ∧ TiesAt C H x ns ∧ Is H v s ∧ Known H (items s) ∧ ∀ H', Same H H' → Q (.bl (threeB ns s)) H'
section
variable {P : Program} {w : World} {K : PySem.W.Frag} {mg : Str → Option Value} {base : Heap}
theorem ok_is_three {f C fS fH : Addr} {fd fdS fdH : FuncData} (F : Fun K "is_three" "is_three" s_is_three f fd) (T : TiC K C) (nl : mg "len" = none) (na : mg "all" = none) (GS : Cal P w K mg base CX0 1 "is_sequence" fS fdS ["thing"] spSeq)
    (GH : Mt P w K mg base CX0 2 C "has" fH fdH ["self", "thing"] (spHas C)) : FnOk P w K mg base CX0 3 f fd ["ties", "thing"] (spThree C) := by
  refine F.ok sc_is_three (fun vs H Q E h => ?_) (fun cdv A outer s H vs Q E hr h => ?_)
  · obtain ⟨x, ns, v, s, rfl, _⟩ := h
    rfl
  · obtain ⟨x, ns, v, s, rfl, hT, hv, kn, k⟩ := h
    cases s with
    | sc u =>
      refine ⟨_, (pss_cons 
  (ps_if (PW.pt (pw_or (pt_not (pt_val (pcal GS hr pass0 (pa_cons (pv 1) pa_nil)))) (pw_or1 (pt_cmpR op_ne (pe_callB call_len_seq (by rfl) nl PySem.boot_len (pa_cons (pv 1) pa_nil)) pe_int (nomark _))))) (pss_one 
    (ps_ret pe_bl)) pss_nil) (pss_one 
  (ps_ret (pe_callB (cr_all rfl) (by rfl) na (by decide +kernel) (pa_cons (pe_lc (own := [("tie", 2)]) (g := gName 2) (by rfl) sc_is_three.nd (pi_list (pv 1)) (blkOk_by (own := [("tie", 2)]) (N := ["ties", "thing", "tie"]) (sc := defScope s_is_three) (by decide +kernel)) (fun _ _ _ _ _ => pg_name (i := 2) sc_is_three.nd rfl (Or.inl rfl)) (fun _ _ _ _ _ => pts_nil) (fun _ _ _ _ _ => (pe_meth (pv 0) T.cl GH.M GH.F hr GH.b .nil pass0 (pa_cons (pv 2) pa_nil)))) pa_nil))))), ?_⟩
      exact ⟨_, rfl, v, .sc u, rfl, hv, fun H1 S1 => ⟨_, rfl, iteT (k _ S1)⟩⟩
    | dk =>
      refine ⟨_, (pss_cons 
  (ps_if (PW.pt (pw_or (pt_not (pt_val (pcal GS hr pass0 (pa_cons (pv 1) pa_nil)))) (pw_or1 (pt_cmpR op_ne (pe_callB call_len_seq (by rfl) nl PySem.boot_len (pa_cons (pv 1) pa_nil)) pe_int (nomark _))))) (pss_one 
    (ps_ret pe_bl)) pss_nil) (pss_one 
  (ps_ret (pe_callB (cr_all rfl) (by rfl) na (by decide +kernel) (pa_cons (pe_lc (own := [("tie", 2)]) (g := gName 2) (by rfl) sc_is_three.nd (pi_list (pv 1)) (blkOk_by (own := [("tie", 2)]) (N := ["ties", "thing", "tie"]) (sc := defScope s_is_three) (by decide +kernel)) (fun _ _ _ _ _ => pg_name (i := 2) sc_is_three.nd rfl (Or.inl rfl)) (fun _ _ _ _ _ => pts_nil) (fun _ _ _ _ _ => (pe_meth (pv 0) T.cl GH.M GH.F hr GH.b .nil pass0 (pa_cons (pv 2) pa_nil)))) pa_nil))))), ?_⟩
      exact ⟨_, rfl, v, .dk, rfl, hv, fun H1 S1 => ⟨_, rfl, iteT (k _ S1)⟩⟩
    | lst xs =>
      obtain ⟨p, rfl, hp⟩ := hv
      refine ⟨_, (pss_cons 
  (ps_if (PW.pt (pw_or (pt_not (pt_val (pcal GS hr pass0 (pa_cons (pv 1) pa_nil)))) (pw_or1 (pt_cmpR op_ne (pe_callB call_len_seq (by rfl) nl PySem.boot_len (pa_cons (pv 1) pa_nil)) pe_int (nomark _))))) (pss_one 
    (ps_ret pe_bl)) pss_nil) (pss_one 
  (ps_ret (pe_callB (cr_all rfl) (by rfl) na (by decide +kernel) (pa_cons (pe_lc (own := [("tie", 2)]) (g := gName 2) (by rfl) sc_is_three.nd (pi_list (pv 1)) (blkOk_by (own := [("tie", 2)]) (N := ["ties", "thing", "tie"]) (sc := defScope s_is_three) (by decide +kernel)) (fun _ _ _ _ _ => pg_name (i := 2) sc_is_three.nd rfl (Or.inl rfl)) (fun _ _ _ _ _ => pts_nil) (fun _ _ _ _ _ => (pe_meth (pv 0) T.cl GH.M GH.F hr GH.b .nil pass0 (pa_cons (pv 2) pa_nil)))) pa_nil))))), ?_⟩
      refine ⟨_, rfl, _, Sh.lst xs, rfl, ⟨p, rfl, hp⟩, fun H1 S1 => ⟨_, rfl, iteF ?_⟩⟩
      have hp1 := S1 _ _ hp
      refine ⟨_, rfl, p, xs, rfl, .inl (SqL.of hp1), rfl, _, rfl, ?_⟩
      refine ifB (fun c => ?_) (fun c => ?_)
      · have e : threeB ns (.lst xs) = false := threeB_len fun z => c (congrArg (fun n : Nat => V.int (n : Int)) z)
        rw [e] at k
        exact k _ S1
      have l3 : xs.length = 3 := V.int_nat c
      refine ⟨_, rfl, p, rfl, ⟨_, SqL.of hp1⟩, fun D hD => ?_⟩
      refine lc_list (K := K) (a := p) (xs := xs) (fun i H2 => Same H1 H2 ∧ H1 D = none ∧ H2 D = some (.lst ((xs.take i).map fun y => V.bl (tieB ns y)))) ⟨new_same hD, hD, upd_same⟩ (fun i H2 _ ⟨S, _⟩ => SqL.of (S _ _ hp1)) ?_ ?_
      · rintro i y H2 hy ⟨S2, D0, eD⟩
        have hi := (List.getElem?_eq_some_iff.mp hy).1
        obtain ⟨sy, isy⟩ := kn y (List.mem_of_getElem? hy)
        have SS := S1.trans S2
        obtain ⟨dx, t, hx, ht⟩ := id (hT.keep SS)
        refine ⟨rfl, yesT ?_⟩
        refine ⟨_, rfl, x, dx, _, rfl, hx, tf_no _ _ (by decide +kernel) (by decide +kernel), _, rfl, x, ns, y, sy, rfl, ⟨dx, t, hx, ht⟩, isy.keep SS, ?_⟩
        refine ⟨_, eD, by rw [List.length_map, List.length_take]; exact small1000 (by omega), fun b o e => ?_, D0, by rw [upd_same, List.take_add_one, hy, List.map_append]; rfl⟩
        rw [upd_ne (ne_of_none e D0)]
        exact S2 _ _ e
      · rintro H2 ⟨S2, D0, eD⟩
        rw [List.take_length] at eD
        refine ⟨D, xs.map (tieB ns), rfl, SqL.of (by rw [eD, List.map_map]; rfl), ?_⟩
        have e : threeB ns (.lst xs) = (xs.map (tieB ns)).all id := threeB_all l3
        rw [e] at k
        exact k _ (S1.trans S2)
    | tup xs =>
      obtain ⟨p, rfl, hp⟩ := hv
      refine ⟨_, (pss_cons 
  (ps_if (PW.pt (pw_or (pt_not (pt_val (pcal GS hr pass0 (pa_cons (pv 1) pa_nil)))) (pw_or1 (pt_cmpR op_ne (pe_callB call_len_seq (by rfl) nl PySem.boot_len (pa_cons (pv 1) pa_nil)) pe_int (nomark _))))) (pss_one 
    (ps_ret pe_bl)) pss_nil) (pss_one 
  (ps_ret (pe_callB (cr_all rfl) (by rfl) na (by decide +kernel) (pa_cons (pe_lc (own := [("tie", 2)]) (g := gName 2) (by rfl) sc_is_three.nd (pi_tup (pv 1)) (blkOk_by (own := [("tie", 2)]) (N := ["ties", "thing", "tie"]) (sc := defScope s_is_three) (by decide +kernel)) (fun _ _ _ _ _ => pg_name (i := 2) sc_is_three.nd rfl (Or.inl rfl)) (fun _ _ _ _ _ => pts_nil) (fun _ _ _ _ _ => (pe_meth (pv 0) T.cl GH.M GH.F hr GH.b .nil pass0 (pa_cons (pv 2) pa_nil)))) pa_nil))))), ?_⟩
      refine ⟨_, rfl, _, Sh.tup xs, rfl, ⟨p, rfl, hp⟩, fun H1 S1 => ⟨_, rfl, iteF ?_⟩⟩
      have hp1 := S1 _ _ hp
      refine ⟨_, rfl, p, xs, rfl, .inr (SqT.of hp1), rfl, _, rfl, ?_⟩
      refine ifB (fun c => ?_) (fun c => ?_)
      · have e : threeB ns (.tup xs) = false := threeB_len fun z => c (congrArg (fun n : Nat => V.int (n : Int)) z)
        rw [e] at k
        exact k _ S1
      have l3 : xs.length = 3 := V.int_nat c
      refine ⟨_, rfl, p, rfl, ⟨_, SqT.of hp1⟩, fun D hD => ?_⟩
      refine lc_tup (K := K) (a := p) (xs := xs) (fun i H2 => Same H1 H2 ∧ H1 D = none ∧ H2 D = some (.lst ((xs.take i).map fun y => V.bl (tieB ns y)))) ⟨new_same hD, hD, upd_same⟩ (fun i H2 _ ⟨S, _⟩ => SqT.of (S _ _ hp1)) ?_ ?_
      · rintro i y H2 hy ⟨S2, D0, eD⟩
        have hi := (List.getElem?_eq_some_iff.mp hy).1
        obtain ⟨sy, isy⟩ := kn y (List.mem_of_getElem? hy)
        have SS := S1.trans S2
        obtain ⟨dx, t, hx, ht⟩ := id (hT.keep SS)
        refine ⟨rfl, yesT ?_⟩
        refine ⟨_, rfl, x, dx, _, rfl, hx, tf_no _ _ (by decide +kernel) (by decide +kernel), _, rfl, x, ns, y, sy, rfl, ⟨dx, t, hx, ht⟩, isy.keep SS, ?_⟩
        refine ⟨_, eD, by rw [List.length_map, List.length_take]; exact small1000 (by omega), fun b o e => ?_, D0, by rw [upd_same, List.take_add_one, hy, List.map_append]; rfl⟩
        rw [upd_ne (ne_of_none e D0)]
        exact S2 _ _ e
      · rintro H2 ⟨S2, D0, eD⟩
        rw [List.take_length] at eD
        refine ⟨D, xs.map (tieB ns), rfl, SqL.of (by rw [eD, List.map_map]; rfl), ?_⟩
        have e : threeB ns (.tup xs) = (xs.map (tieB ns)).all id := threeB_all l3
        rw [e] at k
        exact k _ (S1.trans S2)
end
end J

set_option Elab.async false
set_option linter.all false
set_option maxRecDepth 100000
set_option maxHeartbeats 8000000
namespace J
open PySem PySem.Spec PyProof.Rows L2
/-! ### the readings of a three -/
def bk (ns : List Int) (t : Int) : Int := (ns[t.toNat]?).getD 0
def InT (ns : List Int) (t : Int) : Prop := 0 ≤ t ∧ t < (ns.length : Nat)
theorem bk_get {ns : List Int} {t : Int} (h : InT ns t) : ns[t.toNat]? = some (bk ns t) := by
  have hl : t.toNat < ns.length := by have := h.1; have := h.2; omega
  unfold bk
  rw [List.getElem?_eq_getElem hl]
  rfl
theorem bk_in {ns : List Int} {t : Int} (g : GoodB ns) (h : InT ns t) : InT ns (bk ns t) := g.rng _ (List.mem_of_getElem? (bk_get h))
theorem bk_bk {ns : List Int} {t : Int} (g : GoodB ns) (h : InT ns t) : bk ns (bk ns t) = t := by
  have := g.inv _ _ (bk_get h)
  show (ns[(bk ns t).toNat]?).getD 0 = t
  rw [this]
  show ((t.toNat : Nat) : Int) = t
  exact Int.toNat_of_nonneg h.1
def six (ns : List Int) (p q r : Int) : List (List Int) := [[p, q, r], [r, bk ns q, p], [bk ns p, r, q], [q, bk ns r, bk ns p], [bk ns r, p, bk ns q], [bk ns q, bk ns p, bk ns r]]
/-- the readings, ascending, each once -/
def RdL (ns : List Int) (p q r : Int) (L : List (List Int)) : Prop := L.Pairwise (fun a b => TS.code 4 a < TS.code 4 b) ∧ ∀ x, x ∈ L ↔ x ∈ six ns p q r
def ks6 (ns : List Int) (p q r : Int) (t1 t2 t3 t4 t5 t6 : Addr) : List (Addr × List Int) := [(t1, [p, q, r]), (t2, [r, bk ns q, p]), (t3, [bk ns p, r, q]), (t4, [q, bk ns r, bk ns p]), (t5, [bk ns r, p, bk ns q]), (t6, [bk ns q, bk ns p, bk ns r])]
theorem ks6_six {ns : List Int} {p q r : Int} {t1 t2 t3 t4 t5 t6 : Addr} {y : Addr × List Int} (h : y ∈ ks6 ns p q r t1 t2 t3 t4 t5 t6) : y.2 ∈ six ns p q r := by
  simp only [ks6, List.mem_cons, List.not_mem_nil, or_false] at h
  rcases h with rfl | rfl | rfl | rfl | rfl | rfl <;> simp [six]
theorem six_ks6 {ns : List Int} {p q r : Int} {t1 t2 t3 t4 t5 t6 : Addr} {x : List Int} (h : x ∈ six ns p q r) : ∃ y ∈ ks6 ns p q r t1 t2 t3 t4 t5 t6, y.2 = x := by
  simp only [six, List.mem_cons, List.not_mem_nil, or_false] at h
  rcases h with rfl | rfl | rfl | rfl | rfl | rfl
  · exact ⟨(t1, _), by simp [ks6], rfl⟩
  · exact ⟨(t2, _), by simp [ks6], rfl⟩
  · exact ⟨(t3, _), by simp [ks6], rfl⟩
  · exact ⟨(t4, _), by simp [ks6], rfl⟩
  · exact ⟨(t5, _), by simp [ks6], rfl⟩
  · exact ⟨(t6, _), by simp [ks6], rfl⟩
theorem six_in {ns : List Int} {p q r : Int} (g : GoodB ns) (ip : InT ns p) (iq : InT ns q) (ir : InT ns r) : ∀ x ∈ six ns p q r, ∃ a b c, x = [a, b, c] ∧ InT ns a ∧ InT ns b ∧ InT ns c := by
  have bp := bk_in g ip
  have bq := bk_in g iq
  have br := bk_in g ir
  intro x h
  simp only [six, List.mem_cons, List.not_mem_nil, or_false] at h
  rcases h with rfl | rfl | rfl | rfl | rfl | rfl
  · exact ⟨_, _, _, rfl, ip, iq, ir⟩
  · exact ⟨_, _, _, rfl, ir, bq, ip⟩
  · exact ⟨_, _, _, rfl, bp, ir, iq⟩
  · exact ⟨_, _, _, rfl, iq, br, bp⟩
  · exact ⟨_, _, _, rfl, br, ip, bq⟩
  · exact ⟨_, _, _, rfl, bq, bp, br⟩
theorem six_bd {ns : List Int} {p q r : Int} (g : GoodB ns) (ip : InT ns p) (iq : InT ns q) (ir : InT ns r) : ∀ x ∈ six ns p q r, x.length = 3 ∧ TS.Bd 4 x := by
  intro x h
  obtain ⟨a, b, c, rfl, ia, ib, ic⟩ := six_in g ip iq ir x h
  have h4 := g.hi
  refine ⟨rfl, fun m hm => ?_⟩
  simp only [List.mem_cons, List.not_mem_nil, or_false] at hm
  rcases hm with rfl | rfl | rfl
  · exact ⟨ia.1, by have := ia.2; omega⟩
  · exact ⟨ib.1, by have := ib.2; omega⟩
  · exact ⟨ic.1, by have := ic.2; omega⟩
theorem code_inj {B : Int} : ∀ {r q : List Int}, r.length = q.length → TS.Bd B r → TS.Bd B q → TS.code B r = TS.code B q → r = q
  | [], [], _, _, _, _ => rfl
  | [], _ :: _, h, _, _, _ => by cases h
  | _ :: _, [], h, _, _, _ => by cases h
  | d :: r, e :: q, h, b1, b2, c => by
    have hl : r.length = q.length := Nat.succ.inj h
    rcases Int.lt_trichotomy d e with h1 | h1 | h1
    · have := TS.code_lt hl b1.tail b2.tail h1
      omega
    · subst h1
      have n1 : ¬ TS.code B r < TS.code B q := fun z => by have := (TS.code_same (d := d) hl).mpr z; omega
      have n2 : ¬ TS.code B q < TS.code B r := fun z => by have := (TS.code_same (d := d) hl.symm).mpr z; omega
      rw [code_inj hl b1.tail b2.tail (by omega)]
    · have := TS.code_lt hl.symm b2.tail b1.tail h1
      omega
theorem threeB_ints {ns : List Int} {xs : List V} (h : (decide (xs.length = 3) && xs.all (tieB ns)) = true) : ∃ p q r, xs = [.int p, .int q, .int r] ∧ InT ns p ∧ InT ns q ∧ InT ns r := by
  obtain ⟨h1, h2⟩ := Bool.and_eq_true_iff.mp h
  have l3 := of_decide_eq_true h1
  rw [List.all_eq_true] at h2
  obtain ⟨a, b, c, rfl⟩ : ∃ a b c, xs = [a, b, c] := match xs, l3 with | [a, b, c], _ => ⟨a, b, c, rfl⟩
  have one : ∀ y ∈ [a, b, c], ∃ t, y = V.int t ∧ InT ns t := fun y hy => by
    obtain ⟨i, v, e, e2⟩ := tieB_true (h2 y hy)
    exact ⟨_, e, by omega, by have := (List.getElem?_eq_some_iff.mp e2).1; omega⟩
  obtain ⟨p, rfl, ip⟩ := one a (by simp)
  obtain ⟨q, rfl, iq⟩ := one b (by simp)
  obtain ⟨r, rfl, ir⟩ := one c (by simp)
  exact ⟨p, q, r, rfl, ip, iq, ir⟩
theorem bk_of {ns : List Int} {t b : Int} {i : Nat} (ht : InT ns t) (e1 : V.int t = V.int ((i : Nat) : Int)) (e2 : ns[i]? = some b) : bk ns t = b := by
  have e : t = (i : Int) := by injection e1
  subst e
  have q := bk_get ht
  rw [show ((i : Int)).toNat = i from Int.toNat_natCast i, e2] at q
  exact (Option.some.inj q).symm
theorem tie_in {ns : List Int} {t : Int} (ht : InT ns t) : tieB ns (.int t) = true := by
  show (decide (0 ≤ t) && decide (t ≤ ((ns.length : Nat) : Int) - 1)) = true
  rw [decide_eq_true ht.1, decide_eq_true (by have := ht.2; omega)]
  rfl
theorem tie_no {ns : List Int} {t : Int} {A : Prop} (ht : InT ns t) (e : tieB ns (.int t) = false) : A := by
  rw [tie_in ht] at e
  cases e
def TupsAt (H : Hp) (z : Addr) (L : List (List Int)) : Prop := ∃ ps : List Addr, H z = some (.tup (ps.map V.ref)) ∧ ps.length = L.length ∧ ∀ (j : Nat) (a : Addr) (ts : List Int), ps[j]? = some a → L[j]? = some ts → H a = some (.tup (ts.map V.int))
theorem TupsAt.keep {H H' : Hp} {z : Addr} {L : List (List Int)} (h : TupsAt H z L) (S : Same H H') : TupsAt H' z L := by
  obtain ⟨ps, a, b, c⟩ := h
  exact ⟨ps, S _ _ a, b, fun j x ts e1 e2 => S _ _ (c j x ts e1 e2)⟩
theorem same_free {H H' : Hp} {a : Addr} (S : Same H H') (e : H' a = none) : H a = none := by
  cases q : H a with
  | none => rfl
  | some o =>
    have := S _ _ q
    rw [e] at this
    cases this
abbrev s_NoThree_init : Stmt := inClass (top 5) 0
theorem sc_NoThree_init : FnScope ["self", "three"] ["self", "three"] (defScope s_NoThree_init) := ⟨rfl, rfl, rfl, by decide +kernel, rfl, by decide +kernel, by decide +kernel⟩
abbrev s_readings_of : Stmt := top 17
theorem sc_readings_of : FnScope ["ties", "three", "p", "q", "r", "p_back", "q_back", "r_back", "readings"] ["ties", "three"] (defScope s_readings_of) := ⟨rfl, rfl, rfl, by decide +kernel, rfl, by decide +kernel, by decide +kernel⟩
def spReadings (C CT : Addr) : Sp := fun vs H Q E => ∃ (x : Addr) (ns : List Int) (v : V) (s : Sh), vs = [.ref x, v] ∧ TiesAt C H x ns ∧ GoodB ns ∧ Is H v s ∧ Known H (items s) ∧ (threeB ns s = false → Tells H CT "three" v E) ∧
  (∀ p q r, items s = [.int p, .int q, .int r] → InT ns p → InT ns q → InT ns r → ∀ (H' : Hp) (z : Addr) (L : List (List Int)), Same H H' → H z = none → TupsAt H' z L → RdL ns p q r L → Q (.ref z) H')
abbrev s_least_reading : Stmt := top 18
theorem sc_least_reading : FnScope ["ties", "three"] ["ties", "three"] (defScope s_least_reading) := ⟨rfl, rfl, rfl, by decide +kernel, rfl, by decide +kernel, by decide +kernel⟩
def spLeast (C CT : Addr) : Sp := fun vs H Q E => ∃ (x : Addr) (ns : List Int) (v : V) (s : Sh), vs = [.ref x, v] ∧ TiesAt C H x ns ∧ GoodB ns ∧ Is H v s ∧ Known H (items s) ∧ (threeB ns s = false → Tells H CT "three" v E) ∧
  (∀ p q r, items s = [.int p, .int q, .int r] → InT ns p → InT ns q → InT ns r → ∀ (H' : Hp) (z : Addr) (t : List Int) (L : List (List Int)), Same H H' → H' z = some (.tup (t.map V.int)) → RdL ns p q r (t :: L) → Q (.ref z) H')
section
variable {P : Program} {w : World} {K : PySem.W.Frag} {mg : Str → Option Value} {base : Heap}
theorem ok_NoThree_init {f C : Addr} {fd : FuncData} (F : Fun K "__init__" "NoThree.__init__" s_NoThree_init f fd) (o : OexC K C) (no : PySem.W.findIn K (.ref C) "three" = some none) : FnOk P w K mg base CX0 1 f fd ["self", "three"] (spXI C "three") := by
  refine F.ok sc_NoThree_init (fun vs H Q E h => ?_) (fun cdv A outer s H vs Q E hr h => ?_)
  · obtain ⟨x, s, rfl, _⟩ := h
    rfl
  · obtain ⟨a, v, rfl, ha, k⟩ := h
    refine ⟨_, pss_one (ps_ost (pv 0) (pv 1)), ?_⟩
    exact ⟨_, rfl, _, rfl, a, C, rfl, o, no, .inl ⟨ha, k⟩⟩
theorem ok_readings_of {f C CN CT fI fB fT : Addr} {fd fdI fdB fdT : FuncData} (F : Fun K "readings_of" "readings_of" s_readings_of f fd) (T : TiC K C) (nt : mg "tuple" = none) (nso : mg "sorted" = none) (nse : mg "set" = none)
    (GI : Cal P w K mg base CX0 3 "is_three" fI fdI ["ties", "thing"] (spThree C)) (GB : Mt P w K mg base (L2.CX P w) 3 C "back" fB fdB ["self", "tie"] (spBack C CN)) (GT : Ex P w K mg base "NoThree" "three" CT fT fdT ["self", "three"]) :
    FnOk P w K mg base (L2.CX P w) 4 f fd ["ties", "three"] (spReadings C CT) := by
  refine F.okX sc_readings_of (fun vs H Q E h => ?_) (fun cdv A outer s H vs Q E hr h => ?_)
  · obtain ⟨x, ns, v, s, rfl, _⟩ := h
    rfl
  · obtain ⟨x, ns, v, s, rfl, hT, gb, hv, kn, k1, k2⟩ := h
    have hr2 : Room 2 _ := hr.mono (by decide)
    cases s with
    | sc u =>
      refine ⟨_, (pss_cons 
  (ps_if (pt_not (pt_val (pcal GI hr pass0 (pa_cons (pv 0) (pa_cons (pv 1) pa_nil))))) (pss_one 
    (ps_raise rfl (takes_of rfl rfl rfl rfl) (pmk_oex GT.o GT.i GT.t GT.F hr2 GT.b .nil pass0 rfl GT.m (pa_cons (pv 1) pa_nil)))) pss_nil) (pss_cons 
  (ps_asg (pv 1) (pg_tup (by rfl) (pgs_cons (pg_name (i := 2) sc_readings_of.nd rfl (Or.inl rfl)) (pgs_cons (pg_name (i := 3) sc_readings_of.nd rfl (Or.inl rfl)) (pgs_cons (pg_name (i := 4) sc_readings_of.nd rfl (Or.inl rfl)) pgs_nil))))) (pss_cons 
  (ps_set (i := 5) sc_readings_of.nd rfl (Or.inl rfl) (pe_meth (pv 0) T.cl GB.M GB.F hr GB.b .nil passL (pa_cons (pv 2) pa_nil))) (pss_cons 
  (ps_set (i := 6) sc_readings_of.nd rfl (Or.inl rfl) (pe_meth (pv 0) T.cl GB.M GB.F hr GB.b .nil passL (pa_cons (pv 3) pa_nil))) (pss_cons 
  (ps_set (i := 7) sc_readings_of.nd rfl (Or.inl rfl) (pe_meth (pv 0) T.cl GB.M GB.F hr GB.b .nil passL (pa_cons (pv 4) pa_nil))) (pss_cons 
  (ps_set (i := 8) sc_readings_of.nd rfl (Or.inl rfl) (pe_lst (pa_cons (pe_tup (pa_cons (pv 2) (pa_cons (pv 3) (pa_cons (pv 4) pa_nil)))) (pa_cons (pe_tup (pa_cons (pv 4) (pa_cons (pv 6) (pa_cons (pv 2) pa_nil)))) (pa_cons (pe_tup (pa_cons (pv 5) (pa_cons (pv 4) (pa_cons (pv 3) pa_nil)))) (pa_cons (pe_tup (pa_cons (pv 3) (pa_cons (pv 7) (pa_cons (pv 5) pa_nil)))) (pa_cons (pe_tup (pa_cons (pv 7) (pa_cons (pv 2) (pa_cons (pv 6) pa_nil)))) (pa_cons (pe_tup (pa_cons (pv 6) (pa_cons (pv 5) (pa_cons (pv 7) pa_nil)))) pa_nil)))))))) (pss_one 
  (ps_ret (pe_callTy (T := "tuple") (r := rTup K) call_tuple_of (by rfl) nt (by decide +kernel) (pa_cons (pe_callB (cr_sortedT rfl) (by rfl) nso (by decide +kernel) (pa_cons (pe_callTy (cr_setOfT rfl hr.units) (by rfl) nse (by decide +kernel) (pa_cons (pv 8) pa_nil)) pa_nil)) pa_nil)))))))))), ?_⟩
      exact ⟨_, rfl, _, rfl, x, ns, v, .sc u, rfl, hT, hv, kn, fun H1 S1 => ⟨_, rfl, iteT ⟨_, rfl, mkO_of ((k1 rfl).mono S1)⟩⟩⟩
    | dk =>
      refine ⟨_, (pss_cons 
  (ps_if (pt_not (pt_val (pcal GI hr pass0 (pa_cons (pv 0) (pa_cons (pv 1) pa_nil))))) (pss_one 
    (ps_raise rfl (takes_of rfl rfl rfl rfl) (pmk_oex GT.o GT.i GT.t GT.F hr2 GT.b .nil pass0 rfl GT.m (pa_cons (pv 1) pa_nil)))) pss_nil) (pss_cons 
  (ps_asg (pv 1) (pg_tup (by rfl) (pgs_cons (pg_name (i := 2) sc_readings_of.nd rfl (Or.inl rfl)) (pgs_cons (pg_name (i := 3) sc_readings_of.nd rfl (Or.inl rfl)) (pgs_cons (pg_name (i := 4) sc_readings_of.nd rfl (Or.inl rfl)) pgs_nil))))) (pss_cons 
  (ps_set (i := 5) sc_readings_of.nd rfl (Or.inl rfl) (pe_meth (pv 0) T.cl GB.M GB.F hr GB.b .nil passL (pa_cons (pv 2) pa_nil))) (pss_cons 
  (ps_set (i := 6) sc_readings_of.nd rfl (Or.inl rfl) (pe_meth (pv 0) T.cl GB.M GB.F hr GB.b .nil passL (pa_cons (pv 3) pa_nil))) (pss_cons 
  (ps_set (i := 7) sc_readings_of.nd rfl (Or.inl rfl) (pe_meth (pv 0) T.cl GB.M GB.F hr GB.b .nil passL (pa_cons (pv 4) pa_nil))) (pss_cons 
  (ps_set (i := 8) sc_readings_of.nd rfl (Or.inl rfl) (pe_lst (pa_cons (pe_tup (pa_cons (pv 2) (pa_cons (pv 3) (pa_cons (pv 4) pa_nil)))) (pa_cons (pe_tup (pa_cons (pv 4) (pa_cons (pv 6) (pa_cons (pv 2) pa_nil)))) (pa_cons (pe_tup (pa_cons (pv 5) (pa_cons (pv 4) (pa_cons (pv 3) pa_nil)))) (pa_cons (pe_tup (pa_cons (pv 3) (pa_cons (pv 7) (pa_cons (pv 5) pa_nil)))) (pa_cons (pe_tup (pa_cons (pv 7) (pa_cons (pv 2) (pa_cons (pv 6) pa_nil)))) (pa_cons (pe_tup (pa_cons (pv 6) (pa_cons (pv 5) (pa_cons (pv 7) pa_nil)))) pa_nil)))))))) (pss_one 
  (ps_ret (pe_callTy (T := "tuple") (r := rTup K) call_tuple_of (by rfl) nt (by decide +kernel) (pa_cons (pe_callB (cr_sortedT rfl) (by rfl) nso (by decide +kernel) (pa_cons (pe_callTy (cr_setOfT rfl hr.units) (by rfl) nse (by decide +kernel) (pa_cons (pv 8) pa_nil)) pa_nil)) pa_nil)))))))))), ?_⟩
      exact ⟨_, rfl, _, rfl, x, ns, v, .dk, rfl, hT, hv, kn, fun H1 S1 => ⟨_, rfl, iteT ⟨_, rfl, mkO_of ((k1 rfl).mono S1)⟩⟩⟩
    | lst xs =>
      obtain ⟨pp, rfl, hp⟩ := hv
      refine ⟨_, (pss_cons 
  (ps_if (pt_not (pt_val (pcal GI hr pass0 (pa_cons (pv 0) (pa_cons (pv 1) pa_nil))))) (pss_one 
    (ps_raise rfl (takes_of rfl rfl rfl rfl) (pmk_oex GT.o GT.i GT.t GT.F hr2 GT.b .nil pass0 rfl GT.m (pa_cons (pv 1) pa_nil)))) pss_nil) (pss_cons 
  (ps_asg (pv 1) (pg_unl rfl (pgs_cons (pg_name (i := 2) sc_readings_of.nd rfl (Or.inl rfl)) (pgs_cons (pg_name (i := 3) sc_readings_of.nd rfl (Or.inl rfl)) (pgs_cons (pg_name (i := 4) sc_readings_of.nd rfl (Or.inl rfl)) pgs_nil))))) (pss_cons 
  (ps_set (i := 5) sc_readings_of.nd rfl (Or.inl rfl) (pe_meth (pv 0) T.cl GB.M GB.F hr GB.b .nil passL (pa_cons (pv 2) pa_nil))) (pss_cons 
  (ps_set (i := 6) sc_readings_of.nd rfl (Or.inl rfl) (pe_meth (pv 0) T.cl GB.M GB.F hr GB.b .nil passL (pa_cons (pv 3) pa_nil))) (pss_cons 
  (ps_set (i := 7) sc_readings_of.nd rfl (Or.inl rfl) (pe_meth (pv 0) T.cl GB.M GB.F hr GB.b .nil passL (pa_cons (pv 4) pa_nil))) (pss_cons 
  (ps_set (i := 8) sc_readings_of.nd rfl (Or.inl rfl) (pe_lst (pa_cons (pe_tup (pa_cons (pv 2) (pa_cons (pv 3) (pa_cons (pv 4) pa_nil)))) (pa_cons (pe_tup (pa_cons (pv 4) (pa_cons (pv 6) (pa_cons (pv 2) pa_nil)))) (pa_cons (pe_tup (pa_cons (pv 5) (pa_cons (pv 4) (pa_cons (pv 3) pa_nil)))) (pa_cons (pe_tup (pa_cons (pv 3) (pa_cons (pv 7) (pa_cons (pv 5) pa_nil)))) (pa_cons (pe_tup (pa_cons (pv 7) (pa_cons (pv 2) (pa_cons (pv 6) pa_nil)))) (pa_cons (pe_tup (pa_cons (pv 6) (pa_cons (pv 5) (pa_cons (pv 7) pa_nil)))) pa_nil)))))))) (pss_one 
  (ps_ret (pe_callTy (T := "tuple") (r := rTup K) call_tuple_of (by rfl) nt (by decide +kernel) (pa_cons (pe_callB (cr_sortedT rfl) (by rfl) nso (by decide +kernel) (pa_cons (pe_callTy (cr_setOfT rfl hr.units) (by rfl) nse (by decide +kernel) (pa_cons (pv 8) pa_nil)) pa_nil)) pa_nil)))))))))), ?_⟩
      refine ⟨_, rfl, _, rfl, x, ns, _, Sh.lst xs, rfl, hT, ⟨pp, rfl, hp⟩, kn, fun H1 S1 => ⟨_, rfl, ?_⟩⟩
      cases e : threeB ns (.lst xs) with
      | false => exact iteT ⟨_, rfl, mkO_of ((k1 e).mono S1)⟩
      | true =>
        obtain ⟨p, q, r, rfl, ip, iq, ir⟩ := threeB_ints e
        refine iteF ?_
        refine ⟨_, rfl, pp, _, rfl, SqL.of (S1 _ _ hp), rfl, _, _, rfl, _, _, rfl, _, _, rfl, rfl, ?_⟩
        have hT1 := hT.keep S1
        obtain ⟨dx, t, hx, ht⟩ := id hT1
        have nl : (tf t (ns.length : Nat)).lookup ("back" : Str) = none := tf_no _ _ (by decide +kernel) (by decide +kernel)
        refine ⟨_, rfl, x, dx, _, rfl, hx, nl, _, rfl, x, ns, .int p, .sc (.int p), rfl, hT1, ⟨rfl, rfl⟩, fun jp bp e1 e2 => ?_, fun e => tie_no ip e⟩
        obtain rfl := bk_of ip e1 e2
        refine ⟨_, rfl, x, dx, _, rfl, hx, nl, _, rfl, x, ns, .int q, .sc (.int q), rfl, hT1, ⟨rfl, rfl⟩, fun jq bq e1 e2 => ?_, fun e => tie_no iq e⟩
        obtain rfl := bk_of iq e1 e2
        refine ⟨_, rfl, x, dx, _, rfl, hx, nl, _, rfl, x, ns, .int r, .sc (.int r), rfl, hT1, ⟨rfl, rfl⟩, fun jr br e1 e2 => ?_, fun e => tie_no ir e⟩
        obtain rfl := bk_of ir e1 e2
        refine ⟨_, rfl, _, rfl, _, rfl, (by show 3 ≤ sizeLine; decide), fun t1 ht1 => ?_⟩
        have W1 : Same H1 (upd H1 t1 (.tup [.int p, .int q, .int r])) := new_same ht1
        have f1 : (upd H1 t1 (.tup [.int p, .int q, .int r])) t1 = some (.tup [.int p, .int q, .int r]) := upd_same
        generalize upd H1 t1 (.tup [.int p, .int q, .int r]) = K1 at W1 f1
        refine ⟨_, rfl, _, rfl, _, rfl, (by show 3 ≤ sizeLine; decide), fun t2 ht2 => ?_⟩
        have W2 : Same K1 (upd K1 t2 (.tup [.int r, .int (bk ns q), .int p])) := new_same ht2
        have f2 : (upd K1 t2 (.tup [.int r, .int (bk ns q), .int p])) t2 = some (.tup [.int r, .int (bk ns q), .int p]) := upd_same
        generalize upd K1 t2 (.tup [.int r, .int (bk ns q), .int p]) = K2 at W2 f2
        refine ⟨_, rfl, _, rfl, _, rfl, (by show 3 ≤ sizeLine; decide), fun t3 ht3 => ?_⟩
        have W3 : Same K2 (upd K2 t3 (.tup [.int (bk ns p), .int r, .int q])) := new_same ht3
        have f3 : (upd K2 t3 (.tup [.int (bk ns p), .int r, .int q])) t3 = some (.tup [.int (bk ns p), .int r, .int q]) := upd_same
        generalize upd K2 t3 (.tup [.int (bk ns p), .int r, .int q]) = K3 at W3 f3
        refine ⟨_, rfl, _, rfl, _, rfl, (by show 3 ≤ sizeLine; decide), fun t4 ht4 => ?_⟩
        have W4 : Same K3 (upd K3 t4 (.tup [.int q, .int (bk ns r), .int (bk ns p)])) := new_same ht4
        have f4 : (upd K3 t4 (.tup [.int q, .int (bk ns r), .int (bk ns p)])) t4 = some (.tup [.int q, .int (bk ns r), .int (bk ns p)]) := upd_same
        generalize upd K3 t4 (.tup [.int q, .int (bk ns r), .int (bk ns p)]) = K4 at W4 f4
        refine ⟨_, rfl, _, rfl, _, rfl, (by show 3 ≤ sizeLine; decide), fun t5 ht5 => ?_⟩
        have W5 : Same K4 (upd K4 t5 (.tup [.int (bk ns r), .int p, .int (bk ns q)])) := new_same ht5
        have f5 : (upd K4 t5 (.tup [.int (bk ns r), .int p, .int (bk ns q)])) t5 = some (.tup [.int (bk ns r), .int p, .int (bk ns q)]) := upd_same
        generalize upd K4 t5 (.tup [.int (bk ns r), .int p, .int (bk ns q)]) = K5 at W5 f5
        refine ⟨_, rfl, _, rfl, _, rfl, (by show 3 ≤ sizeLine; decide), fun t6 ht6 => ?_⟩
        have W6 : Same K5 (upd K5 t6 (.tup [.int (bk ns q), .int (bk ns p), .int (bk ns r)])) := new_same ht6
        have f6 : (upd K5 t6 (.tup [.int (bk ns q), .int (bk ns p), .int (bk ns r)])) t6 = some (.tup [.int (bk ns q), .int (bk ns p), .int (bk ns r)]) := upd_same
        generalize upd K5 t6 (.tup [.int (bk ns q), .int (bk ns p), .int (bk ns r)]) = K6 at W6 f6
        refine ⟨(by show 6 ≤ sizeLine; decide), fun l hl => ?_⟩
        have W7 : Same K6 (upd K6 l (.lst [.ref t1, .ref t2, .ref t3, .ref t4, .ref t5, .ref t6])) := new_same hl
        have f7 : (upd K6 l (.lst [.ref t1, .ref t2, .ref t3, .ref t4, .ref t5, .ref t6])) l = some (.lst [.ref t1, .ref t2, .ref t3, .ref t4, .ref t5, .ref t6]) := upd_same
        generalize upd K6 l (.lst [.ref t1, .ref t2, .ref t3, .ref t4, .ref t5, .ref t6]) = K7 at W7 f7
        have V6 := W7
        have V5 := W6.trans V6
        have V4 := W5.trans V5
        have V3 := W4.trans V4
        have V2 := W3.trans V3
        have V1 := W2.trans V2
        have S7 : Same H K7 := (S1.trans W1).trans V1
        have hks : ∀ y ∈ ks6 ns p q r t1 t2 t3 t4 t5 t6, K7 y.1 = some (.tup (y.2.map V.int)) := fun y hy => by
          simp only [ks6, List.mem_cons, List.not_mem_nil, or_false] at hy
          rcases hy with rfl | rfl | rfl | rfl | rfl | rfl
          · exact V1 _ _ f1
          · exact V2 _ _ f2
          · exact V3 _ _ f3
          · exact V4 _ _ f4
          · exact V5 _ _ f5
          · exact V6 _ _ f6
        refine ⟨_, rfl, l, ks6 ns p q r t1 t2 t3 t4 t5 t6, rfl, SqL.of f7, fun y hy => SqT.of (hks y hy), (by show 6 < 64; decide), fun a L ha hL1 hL2 => ?_⟩
        have W8 : Same K7 (upd K7 a (SetTO P w a L)) := new_same ha
        have bd : ∀ y ∈ L, y.2.length = 3 ∧ TS.Bd 4 y.2 := fun y hy => six_bd gb ip iq ir _ (ks6_six (hL1 y hy))
        refine ⟨a, L, 3, 4, rfl, upd_same, fun y hy => SqT.of (W8 _ _ (hks y (hL1 y hy))), by decide, bd, fun L' z2 pm nd _ pw hz2 => ?_⟩
        have W9 : Same (upd K7 a (SetTO P w a L)) (upd (upd K7 a (SetTO P w a L)) z2 (.lst (L'.map fun q => V.ref q.1))) := new_same hz2
        have mem' : ∀ y ∈ L', y ∈ L := fun y hy => pm.mem_iff.mp hy
        refine ⟨z2, _, rfl, .inl ⟨SqL.of upd_same, fun z hz => ?_⟩⟩
        have W10 := new_same (o := .tup (L'.map fun q => V.ref q.1)) hz
        refine k2 p q r rfl ip iq ir _ z (L'.map (·.2)) (((S7.trans W8).trans W9).trans W10) (by
            have := same_free W9 hz
            exact same_free S7 (same_free W8 this)) ⟨L'.map (·.1), by rw [upd_same, List.map_map]; rfl, by rw [List.length_map, List.length_map], fun j a' ts e1 e2 => ?_⟩ ⟨?_, fun x => ⟨fun hx => ?_, fun hx => ?_⟩⟩
        · rw [List.getElem?_map] at e1 e2
          cases ej : L'[j]? with
          | none => rw [ej] at e1; cases e1
          | some y =>
            rw [ej] at e1 e2
            obtain rfl := Option.some.inj e1
            obtain rfl := Option.some.inj e2
            have my := mem' y (List.mem_of_getElem? ej)
            exact W10 _ _ (W9 _ _ (W8 _ _ (hks y (hL1 y my))))
        · rw [List.pairwise_map]
          have nd' : L'.Pairwise fun a b => a.2 ≠ b.2 := by
            have : (L'.map (·.2)).Pairwise (· ≠ ·) := nd
            rwa [List.pairwise_map] at this
          refine (pw.and nd').imp_of_mem fun {a b} ma mb h => ?_
          obtain ⟨h1, h2⟩ := h
          rcases Int.lt_or_eq_of_le h1 with h3 | h3
          · exact h3
          · obtain ⟨l1, b1⟩ := bd a (mem' a ma)
            obtain ⟨l2, b2⟩ := bd b (mem' b mb)
            exact absurd (code_inj (by omega) b1 b2 h3) h2
        · obtain ⟨y, hy, rfl⟩ := List.mem_map.mp hx
          exact ks6_six (hL1 y (mem' y hy))
        · obtain ⟨y, hy, rfl⟩ := six_ks6 (t1 := t1) (t2 := t2) (t3 := t3) (t4 := t4) (t5 := t5) (t6 := t6) hx
          obtain ⟨y', hy', e⟩ := List.mem_map.mp (hL2 y hy)
          exact List.mem_map.mpr ⟨y', pm.mem_iff.mpr hy', e⟩
    | tup xs =>
      obtain ⟨pp, rfl, hp⟩ := hv
      refine ⟨_, (pss_cons 
  (ps_if (pt_not (pt_val (pcal GI hr pass0 (pa_cons (pv 0) (pa_cons (pv 1) pa_nil))))) (pss_one 
    (ps_raise rfl (takes_of rfl rfl rfl rfl) (pmk_oex GT.o GT.i GT.t GT.F hr2 GT.b .nil pass0 rfl GT.m (pa_cons (pv 1) pa_nil)))) pss_nil) (pss_cons 
  (ps_asg (pv 1) (pg_tup (by rfl) (pgs_cons (pg_name (i := 2) sc_readings_of.nd rfl (Or.inl rfl)) (pgs_cons (pg_name (i := 3) sc_readings_of.nd rfl (Or.inl rfl)) (pgs_cons (pg_name (i := 4) sc_readings_of.nd rfl (Or.inl rfl)) pgs_nil))))) (pss_cons 
  (ps_set (i := 5) sc_readings_of.nd rfl (Or.inl rfl) (pe_meth (pv 0) T.cl GB.M GB.F hr GB.b .nil passL (pa_cons (pv 2) pa_nil))) (pss_cons 
  (ps_set (i := 6) sc_readings_of.nd rfl (Or.inl rfl) (pe_meth (pv 0) T.cl GB.M GB.F hr GB.b .nil passL (pa_cons (pv 3) pa_nil))) (pss_cons 
  (ps_set (i := 7) sc_readings_of.nd rfl (Or.inl rfl) (pe_meth (pv 0) T.cl GB.M GB.F hr GB.b .nil passL (pa_cons (pv 4) pa_nil))) (pss_cons 
  (ps_set (i := 8) sc_readings_of.nd rfl (Or.inl rfl) (pe_lst (pa_cons (pe_tup (pa_cons (pv 2) (pa_cons (pv 3) (pa_cons (pv 4) pa_nil)))) (pa_cons (pe_tup (pa_cons (pv 4) (pa_cons (pv 6) (pa_cons (pv 2) pa_nil)))) (pa_cons (pe_tup (pa_cons (pv 5) (pa_cons (pv 4) (pa_cons (pv 3) pa_nil)))) (pa_cons (pe_tup (pa_cons (pv 3) (pa_cons (pv 7) (pa_cons (pv 5) pa_nil)))) (pa_cons (pe_tup (pa_cons (pv 7) (pa_cons (pv 2) (pa_cons (pv 6) pa_nil)))) (pa_cons (pe_tup (pa_cons (pv 6) (pa_cons (pv 5) (pa_cons (pv 7) pa_nil)))) pa_nil)))))))) (pss_one 
  (ps_ret (pe_callTy (T := "tuple") (r := rTup K) call_tuple_of (by rfl) nt (by decide +kernel) (pa_cons (pe_callB (cr_sortedT rfl) (by rfl) nso (by decide +kernel) (pa_cons (pe_callTy (cr_setOfT rfl hr.units) (by rfl) nse (by decide +kernel) (pa_cons (pv 8) pa_nil)) pa_nil)) pa_nil)))))))))), ?_⟩
      refine ⟨_, rfl, _, rfl, x, ns, _, Sh.tup xs, rfl, hT, ⟨pp, rfl, hp⟩, kn, fun H1 S1 => ⟨_, rfl, ?_⟩⟩
      cases e : threeB ns (.tup xs) with
      | false => exact iteT ⟨_, rfl, mkO_of ((k1 e).mono S1)⟩
      | true =>
        obtain ⟨p, q, r, rfl, ip, iq, ir⟩ := threeB_ints e
        refine iteF ?_
        refine ⟨_, rfl, pp, _, rfl, SqT.of (S1 _ _ hp), rfl, _, _, rfl, _, _, rfl, _, _, rfl, rfl, ?_⟩
        have hT1 := hT.keep S1
        obtain ⟨dx, t, hx, ht⟩ := id hT1
        have nl : (tf t (ns.length : Nat)).lookup ("back" : Str) = none := tf_no _ _ (by decide +kernel) (by decide +kernel)
        refine ⟨_, rfl, x, dx, _, rfl, hx, nl, _, rfl, x, ns, .int p, .sc (.int p), rfl, hT1, ⟨rfl, rfl⟩, fun jp bp e1 e2 => ?_, fun e => tie_no ip e⟩
        obtain rfl := bk_of ip e1 e2
        refine ⟨_, rfl, x, dx, _, rfl, hx, nl, _, rfl, x, ns, .int q, .sc (.int q), rfl, hT1, ⟨rfl, rfl⟩, fun jq bq e1 e2 => ?_, fun e => tie_no iq e⟩
        obtain rfl := bk_of iq e1 e2
        refine ⟨_, rfl, x, dx, _, rfl, hx, nl, _, rfl, x, ns, .int r, .sc (.int r), rfl, hT1, ⟨rfl, rfl⟩, fun jr br e1 e2 => ?_, fun e => tie_no ir e⟩
        obtain rfl := bk_of ir e1 e2
        refine ⟨_, rfl, _, rfl, _, rfl, (by show 3 ≤ sizeLine; decide), fun t1 ht1 => ?_⟩
        have W1 : Same H1 (upd H1 t1 (.tup [.int p, .int q, .int r])) := new_same ht1
        have f1 : (upd H1 t1 (.tup [.int p, .int q, .int r])) t1 = some (.tup [.int p, .int q, .int r]) := upd_same
        generalize upd H1 t1 (.tup [.int p, .int q, .int r]) = K1 at W1 f1
        refine ⟨_, rfl, _, rfl, _, rfl, (by show 3 ≤ sizeLine; decide), fun t2 ht2 => ?_⟩
        have W2 : Same K1 (upd K1 t2 (.tup [.int r, .int (bk ns q), .int p])) := new_same ht2
        have f2 : (upd K1 t2 (.tup [.int r, .int (bk ns q), .int p])) t2 = some (.tup [.int r, .int (bk ns q), .int p]) := upd_same
        generalize upd K1 t2 (.tup [.int r, .int (bk ns q), .int p]) = K2 at W2 f2
        refine ⟨_, rfl, _, rfl, _, rfl, (by show 3 ≤ sizeLine; decide), fun t3 ht3 => ?_⟩
        have W3 : Same K2 (upd K2 t3 (.tup [.int (bk ns p), .int r, .int q])) := new_same ht3
        have f3 : (upd K2 t3 (.tup [.int (bk ns p), .int r, .int q])) t3 = some (.tup [.int (bk ns p), .int r, .int q]) := upd_same
        generalize upd K2 t3 (.tup [.int (bk ns p), .int r, .int q]) = K3 at W3 f3
        refine ⟨_, rfl, _, rfl, _, rfl, (by show 3 ≤ sizeLine; decide), fun t4 ht4 => ?_⟩
        have W4 : Same K3 (upd K3 t4 (.tup [.int q, .int (bk ns r), .int (bk ns p)])) := new_same ht4
        have f4 : (upd K3 t4 (.tup [.int q, .int (bk ns r), .int (bk ns p)])) t4 = some (.tup [.int q, .int (bk ns r), .int (bk ns p)]) := upd_same
        generalize upd K3 t4 (.tup [.int q, .int (bk ns r), .int (bk ns p)]) = K4 at W4 f4
        refine ⟨_, rfl, _, rfl, _, rfl, (by show 3 ≤ sizeLine; decide), fun t5 ht5 => ?_⟩
        have W5 : Same K4 (upd K4 t5 (.tup [.int (bk ns r), .int p, .int (bk ns q)])) := new_same ht5
        have f5 : (upd K4 t5 (.tup [.int (bk ns r), .int p, .int (bk ns q)])) t5 = some (.tup [.int (bk ns r), .int p, .int (bk ns q)]) := upd_same
        generalize upd K4 t5 (.tup [.int (bk ns r), .int p, .int (bk ns q)]) = K5 at W5 f5
        refine ⟨_, rfl, _, rfl, _, rfl, (by show 3 ≤ sizeLine; decide), fun t6 ht6 => ?_⟩
        have W6 : Same K5 (upd K5 t6 (.tup [.int (bk ns q), .int (bk ns p), .int (bk ns r)])) := new_same ht6
        have f6 : (upd K5 t6 (.tup [.int (bk ns q), .int (bk ns p), .int (bk ns r)])) t6 = some (.tup [.int (bk ns q), .int (bk ns p), .int (bk ns r)]) := upd_same
        generalize upd K5 t6 (.tup [.int (bk ns q), .int (bk ns p), .int (bk ns r)]) = K6 at W6 f6
        refine ⟨(by show 6 ≤ sizeLine; decide), fun l hl => ?_⟩
        have W7 : Same K6 (upd K6 l (.lst [.ref t1, .ref t2, .ref t3, .ref t4, .ref t5, .ref t6])) := new_same hl
        have f7 : (upd K6 l (.lst [.ref t1, .ref t2, .ref t3, .ref t4, .ref t5, .ref t6])) l = some (.lst [.ref t1, .ref t2, .ref t3, .ref t4, .ref t5, .ref t6]) := upd_same
        generalize upd K6 l (.lst [.ref t1, .ref t2, .ref t3, .ref t4, .ref t5, .ref t6]) = K7 at W7 f7
        have V6 := W7
        have V5 := W6.trans V6
        have V4 := W5.trans V5
        have V3 := W4.trans V4
        have V2 := W3.trans V3
        have V1 := W2.trans V2
        have S7 : Same H K7 := (S1.trans W1).trans V1
        have hks : ∀ y ∈ ks6 ns p q r t1 t2 t3 t4 t5 t6, K7 y.1 = some (.tup (y.2.map V.int)) := fun y hy => by
          simp only [ks6, List.mem_cons, List.not_mem_nil, or_false] at hy
          rcases hy with rfl | rfl | rfl | rfl | rfl | rfl
          · exact V1 _ _ f1
          · exact V2 _ _ f2
          · exact V3 _ _ f3
          · exact V4 _ _ f4
          · exact V5 _ _ f5
          · exact V6 _ _ f6
        refine ⟨_, rfl, l, ks6 ns p q r t1 t2 t3 t4 t5 t6, rfl, SqL.of f7, fun y hy => SqT.of (hks y hy), (by show 6 < 64; decide), fun a L ha hL1 hL2 => ?_⟩
        have W8 : Same K7 (upd K7 a (SetTO P w a L)) := new_same ha
        have bd : ∀ y ∈ L, y.2.length = 3 ∧ TS.Bd 4 y.2 := fun y hy => six_bd gb ip iq ir _ (ks6_six (hL1 y hy))
        refine ⟨a, L, 3, 4, rfl, upd_same, fun y hy => SqT.of (W8 _ _ (hks y (hL1 y hy))), by decide, bd, fun L' z2 pm nd _ pw hz2 => ?_⟩
        have W9 : Same (upd K7 a (SetTO P w a L)) (upd (upd K7 a (SetTO P w a L)) z2 (.lst (L'.map fun q => V.ref q.1))) := new_same hz2
        have mem' : ∀ y ∈ L', y ∈ L := fun y hy => pm.mem_iff.mp hy
        refine ⟨z2, _, rfl, .inl ⟨SqL.of upd_same, fun z hz => ?_⟩⟩
        have W10 := new_same (o := .tup (L'.map fun q => V.ref q.1)) hz
        refine k2 p q r rfl ip iq ir _ z (L'.map (·.2)) (((S7.trans W8).trans W9).trans W10) (by
            have := same_free W9 hz
            exact same_free S7 (same_free W8 this)) ⟨L'.map (·.1), by rw [upd_same, List.map_map]; rfl, by rw [List.length_map, List.length_map], fun j a' ts e1 e2 => ?_⟩ ⟨?_, fun x => ⟨fun hx => ?_, fun hx => ?_⟩⟩
        · rw [List.getElem?_map] at e1 e2
          cases ej : L'[j]? with
          | none => rw [ej] at e1; cases e1
          | some y =>
            rw [ej] at e1 e2
            obtain rfl := Option.some.inj e1
            obtain rfl := Option.some.inj e2
            have my := mem' y (List.mem_of_getElem? ej)
            exact W10 _ _ (W9 _ _ (W8 _ _ (hks y (hL1 y my))))
        · rw [List.pairwise_map]
          have nd' : L'.Pairwise fun a b => a.2 ≠ b.2 := by
            have : (L'.map (·.2)).Pairwise (· ≠ ·) := nd
            rwa [List.pairwise_map] at this
          refine (pw.and nd').imp_of_mem fun {a b} ma mb h => ?_
          obtain ⟨h1, h2⟩ := h
          rcases Int.lt_or_eq_of_le h1 with h3 | h3
          · exact h3
          · obtain ⟨l1, b1⟩ := bd a (mem' a ma)
            obtain ⟨l2, b2⟩ := bd b (mem' b mb)
            exact absurd (code_inj (by omega) b1 b2 h3) h2
        · obtain ⟨y, hy, rfl⟩ := List.mem_map.mp hx
          exact ks6_six (hL1 y (mem' y hy))
        · obtain ⟨y, hy, rfl⟩ := six_ks6 (t1 := t1) (t2 := t2) (t3 := t3) (t4 := t4) (t5 := t5) (t6 := t6) hx
          obtain ⟨y', hy', e⟩ := List.mem_map.mp (hL2 y hy)
          exact List.mem_map.mpr ⟨y', pm.mem_iff.mpr hy', e⟩
theorem ok_least_reading {f C CT fR : Addr} {fd fdR : FuncData} (F : Fun K "least_reading" "least_reading" s_least_reading f fd) (GR : Cal P w K mg base (L2.CX P w) 4 "readings_of" fR fdR ["ties", "three"] (spReadings C CT)) :
    FnOk P w K mg base (L2.CX P w) 5 f fd ["ties", "three"] (spLeast C CT) := by
  refine F.okX sc_least_reading (fun vs H Q E h => ?_) (fun cdv A outer s H vs Q E hr h => ?_)
  · obtain ⟨x, ns, v, s, rfl, _⟩ := h
    rfl
  · obtain ⟨x, ns, v, s, rfl, hT, gb, hv, kn, k1, k2⟩ := h
    refine ⟨_, (pss_one 
  (ps_ret (pe_ix ix_tup (pcal GR hr (passes_call (takes_of rfl rfl rfl rfl) (fun _ _ _ _ h => h)) (pa_cons (pv 0) (pa_cons (pv 1) pa_nil))) pe_int (fun _ _ => rfl)))), ?_⟩
    refine ⟨_, rfl, _, rfl, x, ns, v, s, rfl, hT, gb, hv, kn, k1, fun p q r e ip iq ir H1 z L S1 nz TA R => ?_⟩
    cases L with
    | nil =>
      have : [p, q, r] ∈ ([] : List (List Int)) := (R.2 _).mpr (by simp [six])
      cases this
    | cons t L =>
      obtain ⟨ps, e1, e2, e3⟩ := TA
      obtain ⟨a, ps', rfl⟩ : ∃ a ps', ps = a :: ps' := match ps, e2 with | a :: ps', _ => ⟨a, ps', rfl⟩
      exact ⟨_, _, _, _, rfl, rfl, SqT.of e1, at_of (j := 0) (v := .ref a) rfl rfl, k2 p q r e ip iq ir H1 a t L S1 (e3 0 a t rfl rfl) R⟩
end
end J

set_option Elab.async false
set_option linter.all false
set_option maxRecDepth 100000
set_option maxHeartbeats 8000000
namespace J
open PySem PySem.Spec PyProof.Rows L2
/-! ### ranges in comprehensions of several clauses -/
theorem bFor_range {lo : Int} {n : Nat} {g : TG} {vs : List Nat} {σ : L2.St} {H0 : Hp} {body : TB} {Nx : Hp → Prop} (Pv : Nat → Hp → Prop) (h0 : Pv 0 H0)
    (hs : ∀ i H, i < n → Pv i H → g (.int (lo + i)) (wipe σ vs) H fun σ3 H5 => wipe σ3 vs = wipe σ vs ∧ body σ3 H5 (Pv (i + 1))) (hd : ∀ H, Pv n H → Nx H) :
    ∃ W : Nat → Nat → Hp → Prop, (∃ m, W 0 m H0) ∧ ∀ j k H, W j k H →
      ((Itr lo n).stop j H ∧ Nx H) ∨ ((Itr lo n).go j H ∧ ∃ N1 : Hp → Prop, (∀ H', N1 H' → ∃ k', k' < k ∧ W (j + 1) k' H') ∧ ∀ x H', (Itr lo n).yld j H x H' → g x (wipe σ vs) H' fun σ3 H5 => wipe σ3 vs = wipe σ vs ∧ body σ3 H5 N1) := by
  refine ⟨fun j k H => k + j = n ∧ Pv j H, ⟨n, rfl, h0⟩, fun j k H ⟨e, p⟩ => ?_⟩
  rcases Nat.lt_or_ge j n with c | c
  · exact .inr ⟨c, Pv (j + 1), fun H' p' => ⟨k - 1, by omega, by omega, p'⟩, fun x H' ⟨e1, e2⟩ => by subst e1 e2; exact hs j _ c p⟩
  · obtain rfl : j = n := by omega
    exact .inl ⟨c, hd H p⟩
/-! ### all threes -/
def A1 (p q k : Nat) : List (List Int) := (List.range k).map fun r : Nat => [(p : Int), (q : Int), ((r : Nat) : Int)]
def A2 (n p j : Nat) : List (List Int) := (List.range j).flatMap fun q => A1 p q n
def A3 (n i : Nat) : List (List Int) := (List.range i).flatMap fun p => A2 n p n
theorem A1_succ (p q k : Nat) : A1 p q (k + 1) = A1 p q k ++ [[(p : Int), (q : Int), (k : Int)]] := by
  unfold A1
  rw [List.range_succ, List.map_append]
  rfl
theorem A2_succ (n p j : Nat) : A2 n p (j + 1) = A2 n p j ++ A1 p j n := by
  unfold A2
  rw [List.range_succ, List.flatMap_append]
  simp
theorem A3_succ (n i : Nat) : A3 n (i + 1) = A3 n i ++ A2 n i n := by
  unfold A3
  rw [List.range_succ, List.flatMap_append]
  simp
theorem A_len : ∀ n, n ≤ 4 → ∀ i, i < n → ∀ j, j < n → ∀ k, k < n → (A3 n i ++ A2 n i j ++ A1 i j k).length ≤ 64 := by decide +kernel
theorem A3_len : ∀ n, n ≤ 4 → (A3 n n).length ≤ 64 := by decide +kernel
theorem A3_mem {n : Nat} {t : List Int} : t ∈ A3 n n ↔ ∃ p q r : Nat, p < n ∧ q < n ∧ r < n ∧ t = [(p : Int), (q : Int), (r : Int)] := by
  unfold A3 A2 A1
  simp only [List.mem_flatMap, List.mem_map, List.mem_range]
  constructor
  · rintro ⟨p, hp, q, hq, r, hr, rfl⟩
    exact ⟨p, q, r, hp, hq, hr, rfl⟩
  · rintro ⟨p, q, r, hp, hq, hr, rfl⟩
    exact ⟨p, hp, q, hq, r, hr, rfl⟩
/-- tuples that were put one behind another into the list at D -/
structure Gro (H1 H : Hp) (D : Addr) (L : List (List Int)) : Prop where
  S : Same H1 H
  n : H1 D = none
  d : ∃ ps : List Addr, H D = some (.lst (ps.map V.ref)) ∧ ps.length = L.length ∧ ∀ (j : Nat) (a : Addr) (ts : List Int), ps[j]? = some a → L[j]? = some ts → a ≠ D ∧ H a = some (.tup (ts.map V.int))
theorem Gro.nil {H1 : Hp} {D : Addr} (hD : H1 D = none) : Gro H1 (upd H1 D (.lst [])) D [] := ⟨new_same hD, hD, [], upd_same, rfl, fun j a ts e => by simp at e⟩
theorem Gro.snoc {H1 H : Hp} {D z : Addr} {L : List (List Int)} {ts : List Int} (G : Gro H1 H D L) (hz : H z = none) : ∃ acc, (upd H z (.tup (ts.map V.int))) D = some (.lst acc) ∧ acc.length = L.length ∧ Gro H1 (upd (upd H z (.tup (ts.map V.int))) D (.lst (acc ++ [.ref z]))) D (L ++ [ts]) := by
  obtain ⟨ps, e1, e2, e3⟩ := G.d
  have nz : z ≠ D := (ne_of_none e1 hz).symm
  refine ⟨ps.map V.ref, new_same hz _ _ e1, by rw [List.length_map, e2], fun b o e => ?_, G.n, ps ++ [z], by rw [upd_same, List.map_append]; rfl, by rw [List.length_append, List.length_append, e2]; rfl, fun j a us q1 q2 => ?_⟩
  · rw [upd_ne (ne_of_none e G.n), upd_ne (ne_of_none (G.S _ _ e) hz)]
    exact G.S _ _ e
  · rcases Nat.lt_or_ge j ps.length with hj | hj
    · rw [List.getElem?_append_left hj] at q1
      rw [List.getElem?_append_left (by omega)] at q2
      obtain ⟨w1, w2⟩ := e3 j a us q1 q2
      exact ⟨w1, by rw [upd_ne w1, upd_ne (ne_of_none w2 hz)]; exact w2⟩
    · have hj2 : j = ps.length := by
        have := (List.getElem?_eq_some_iff.mp q1).1
        rw [List.length_append] at this
        have l : [z].length = 1 := rfl
        omega
      subst hj2
      rw [List.getElem?_append_right (Nat.le_refl _), Nat.sub_self] at q1
      rw [e2, List.getElem?_append_right (Nat.le_refl _), Nat.sub_self] at q2
      obtain rfl : z = a := Option.some.inj q1
      obtain rfl : ts = us := Option.some.inj q2
      exact ⟨nz, by rw [upd_ne nz, upd_same]⟩
theorem Gro.tup {H1 H : Hp} {D z : Addr} {L : List (List Int)} {acc : List V} (G : Gro H1 H D L) (e : H D = some (.lst acc)) (hz : H z = none) : TupsAt (upd H z (.tup acc)) z L := by
  obtain ⟨ps, e1, e2, e3⟩ := G.d
  rw [e1] at e
  injection e with e
  injection e with e
  refine ⟨ps, by rw [upd_same, e], e2, fun j a ts q1 q2 => ?_⟩
  exact new_same hz _ _ (e3 j a ts q1 q2).2
abbrev s_all_threes : Stmt := top 19
theorem sc_all_threes : FnScope ["ties", "many", "p", "q", "r"] ["ties"] (defScope s_all_threes) := ⟨rfl, rfl, rfl, by decide +kernel, rfl, by decide +kernel, by decide +kernel⟩
def spAll (C : Addr) : Sp := fun vs H Q _ => ∃ (x : Addr) (ns : List Int), vs = [.ref x] ∧ TiesAt C H x ns ∧ GoodB ns ∧ ∀ (H' : Hp) (z : Addr), Same H H' → H z = none → TupsAt H' z (A3 ns.length ns.length) → Q (.ref z) H'
section
variable {P : Program} {w : World} {K : PySem.W.Frag} {mg : Str → Option Value} {base : Heap}
theorem ok_all_threes {f C : Addr} {fd : FuncData} (F : Fun K "all_threes" "all_threes" s_all_threes f fd) (T : TiC K C) (nt : mg "tuple" = none) (nr : mg "range" = none) : FnOk P w K mg base CX0 1 f fd ["ties"] (spAll C) := by
  refine F.ok sc_all_threes (fun vs H Q E h => ?_) (fun cdv A outer s H vs Q E hr h => ?_)
  · obtain ⟨x, ns, rfl, _⟩ := h
    rfl
  · obtain ⟨x, ns, rfl, hT, gb, k⟩ := h
    refine ⟨_, (pss_cons 
  (ps_set (i := 1) sc_all_threes.nd rfl (Or.inr rfl) (pe_fld (pv 0) rfl)) (pss_one 
  (ps_ret (pe_callTy (T := "tuple") (r := rTup K) call_tuple_of (by rfl) nt (by decide +kernel) (pa_cons (pe_lcN (own := [("p", 2), ("q", 3), ("r", 4)]) (g := gName 2) (fs := [3, 4]) rfl sc_all_threes.nd (pi_range1 (by rfl) nr (pa_cons (pv 1) pa_nil)) (blkOk_by (own := [("p", 2), ("q", 3), ("r", 4)]) (N := ["ties", "many", "p", "q", "r"]) (sc := defScope s_all_threes) (by decide +kernel)) (fun _ _ _ _ _ => pg_name (i := 2) sc_all_threes.nd rfl (Or.inl rfl))
    (fun _ _ _ _ _ _ => real_for (g := gName 3) (fs := [4]) (vs := [3, 4]) (fun _ _ z => z) rfl rfl (fun _ => rfl) (pi_range1 (by rfl) nr (pa_cons (pv 1) pa_nil)) (pg_name (i := 3) sc_all_threes.nd rfl (Or.inl rfl)) (by decide)
      (real_for (g := gName 4) (fs := []) (vs := [4]) (fun _ _ z => z) rfl rfl (fun _ => rfl) (pi_range1 (by rfl) nr (pa_cons (pv 1) pa_nil)) (pg_name (i := 4) sc_all_threes.nd rfl (Or.inl rfl)) (by decide)
        (real_elt (fun _ _ z => z) rfl (pe_tup (pa_cons (pv 2) (pa_cons (pv 3) (pa_cons (pv 4) pa_nil))))))) (by decide)) pa_nil))))), ?_⟩
    obtain ⟨dx, t, hx, ht⟩ := id hT
    have h4 := gb.hi
    refine ⟨_, rfl, x, C, dx, _, _, rfl, hx, T.cl, T.nM, tf_many _ _, ?_⟩
    refine ⟨_, rfl, (ns.length : Nat), rfl, by omega, by omega, fun D hD => ?_⟩
    refine bFor_range (lo := 0) (n := ns.length) (body := _) (Nx := _) (fun i H2 => Gro H H2 D (A3 ns.length i)) (Gro.nil hD) ?_ ?_
    · intro i H2 hi G2
      refine ⟨rfl, ?_⟩
      refine ⟨_, rfl, (ns.length : Nat), rfl, by omega, by omega, bFor_range (lo := 0) (n := ns.length) (fun j H3 => Gro H H3 D (A3 ns.length i ++ A2 ns.length i j)) (by unfold A2; simpa using G2) ?_ ?_⟩
      · intro j H3 hj G3
        refine ⟨rfl, ?_⟩
        refine ⟨_, rfl, (ns.length : Nat), rfl, by omega, by omega, bFor_range (lo := 0) (n := ns.length) (fun l H4 => Gro H H4 D (A3 ns.length i ++ A2 ns.length i j ++ A1 i j l)) (by unfold A1; simpa using G3) ?_ ?_⟩
        · intro l H4 hl G4
          refine ⟨rfl, ?_⟩
          have ln := A_len ns.length h4 i hi j hj l hl
          refine ⟨_, rfl, _, rfl, _, rfl, (by show 3 ≤ sizeLine; decide), fun z hz => ?_⟩
          obtain ⟨acc, q1, q2, q3⟩ := G4.snoc (ts := [(i : Int), (j : Int), (l : Int)]) hz
          have e : ([(i : Int), (j : Int), (l : Int)].map V.int) = [V.int (0 + (i : Nat)), V.int (0 + (j : Nat)), V.int (0 + (l : Nat))] := by
            simp
          rw [e] at q1 q3
          refine ⟨acc, q1, small1000 (by omega), ?_⟩
          rw [A1_succ, ← List.append_assoc]
          exact q3
        · intro H4 G4
          show Gro H H4 D _
          rw [A2_succ, ← List.append_assoc]
          exact G4
      · intro H3 G3
        show Gro H H3 D _
        rw [A3_succ]
        exact G3
    · intro H2 G2
      obtain ⟨ps, e1, e2, e3⟩ := G2.d
      refine ⟨D, _, rfl, .inl ⟨SqL.of e1, fun z hz => ?_⟩⟩
      exact k _ z (G2.S.trans (new_same hz)) (same_free G2.S hz) (G2.tup e1 hz)
end
end J

set_option Elab.async false
set_option linter.all false
set_option maxRecDepth 100000
set_option maxHeartbeats 8000000
namespace J
open PySem PySem.Spec PyProof.Rows L2
/-! ### the classes of readings -/
def isL (ns : List Int) : List Int → Bool
  | [p, q, r] => (six ns p q r).all fun x => decide (TS.code 4 [p, q, r] ≤ TS.code 4 x)
  | _ => false
theorem isL_iff {ns : List Int} {p q r : Int} {t : List Int} {L : List (List Int)} (R : RdL ns p q r (t :: L)) : decide ([p, q, r] = t) = isL ns [p, q, r] := by
  obtain ⟨pw, mem⟩ := R
  have low := (List.pairwise_cons.mp pw).1
  have tm : t ∈ six ns p q r := (mem t).mp (List.mem_cons_self ..)
  have me : [p, q, r] ∈ t :: L := (mem _).mpr (by simp [six])
  have lo : ∀ x ∈ six ns p q r, TS.code 4 t ≤ TS.code 4 x := fun x hx => by
    rcases List.mem_cons.mp ((mem x).mpr hx) with e | e
    · rw [e]; exact Int.le_refl _
    · exact Int.le_of_lt (low x e)
  show decide ([p, q, r] = t) = (six ns p q r).all fun x => decide (TS.code 4 [p, q, r] ≤ TS.code 4 x)
  by_cases h : [p, q, r] = t
  · rw [decide_eq_true h, eq_comm, List.all_eq_true]
    exact fun x hx => decide_eq_true (by rw [h]; exact lo x hx)
  · rw [decide_eq_false h, eq_comm, List.all_eq_false]
    refine ⟨t, tm, fun z => ?_⟩
    have z := of_decide_eq_true z
    rcases List.mem_cons.mp me with e | e
    · exact h e
    · have := low _ e
      omega
theorem A3_in {n : Nat} {t : List Int} (h : t ∈ A3 n n) {ns : List Int} (e : ns.length = n) : ∃ p q r, t = [p, q, r] ∧ InT ns p ∧ InT ns q ∧ InT ns r := by
  obtain ⟨p, q, r, hp, hq, hr, rfl⟩ := A3_mem.mp h
  exact ⟨_, _, _, rfl, ⟨by omega, by omega⟩, ⟨by omega, by omega⟩, ⟨by omega, by omega⟩⟩
theorem ints_known {H : Hp} (ts : List Int) : Known H (ts.map V.int) := fun y hy => by
  obtain ⟨n, _, rfl⟩ := List.mem_map.mp hy
  exact ⟨.sc (.int n), rfl, rfl⟩
abbrev s_Lplain : Stmt := top 37
theorem sc_Lplain : FnScope ["_law_answer", "_law_due", "_law_one", "_law_other"] ["_law_answer", "_law_due"] (defScope s_Lplain) := ⟨rfl, rfl, rfl, by decide +kernel, rfl, by decide +kernel, by decide +kernel⟩
def spNo : Sp := fun _ _ _ _ => False
def spP0 : Sp := fun vs H Q _ => ((∃ n : Int, vs = [.int n, .int n]) ∨ ∃ b : Bool, vs = [.bl b, .bl b]) ∧ Q (.bl true) H
def spP1 : Sp := fun vs H Q _ => ∃ (a b : Addr) (ts : List Int), vs = [.ref a, .ref b] ∧ H a = some (.tup (ts.map V.int)) ∧ H b = some (.tup (ts.map V.int)) ∧ ∀ H', Same H H' → Q (.bl true) H'
def spP2 : Sp := fun vs H Q _ => ∃ (a b : Addr) (L : List (List Int)), vs = [.ref a, .ref b] ∧ TupsAt H a L ∧ TupsAt H b L ∧ ∀ H', Same H H' → Q (.bl true) H'
section
variable {P : Program} {w : World} {K : PySem.W.Frag} {mg : Str → Option Value} {base : Heap}
theorem fn_no {CX : CXT} {k : Nat} {f : Addr} {fd : FuncData} {ps : List Str} : FnOk P w K mg base CX k f fd ps spNo := ⟨fun _ _ _ _ h => h.elim, fun _ _ _ _ _ _ _ _ _ _ _ _ _ h => h.elim⟩
theorem ok_Lplain0 {f fP : Addr} {fd fdP : FuncData} (F : Fun K "_law_plain" "_law_plain" s_Lplain f fd) (nis : mg "isinstance" = none) (nt : mg "tuple" = none) (nl : mg "len" = none) (nz : mg "zip" = none) (nb : mg "bool" = none) (ni : mg "int" = none) (ns : mg "str" = none) (GP : Cal P w K mg base CX0 0 "_law_plain" fP fdP ["_law_answer", "_law_due"] spNo) : FnOk P w K mg base CX0 1 f fd ["_law_answer", "_law_due"] spP0 := by
  refine F.ok sc_Lplain (fun vs H Q E h => ?_) (fun cdv A outer s H vs Q E hr h => ?_)
  · obtain ⟨⟨n, rfl⟩ | ⟨b, rfl⟩, _⟩ := h <;> rfl
  · refine ⟨_, (pss_cons 
  (ps_if (pt_val (pe_callB call_isi (by rfl) nis (by decide +kernel) (pa_cons (pv 1) (pa_cons (pe_bltn (by rfl) nt (by decide +kernel) (v := .ty "tuple") rfl) pa_nil)))) (pss_cons 
    (ps_if (PW.pt (pw_or (pt_not (pt_val (pe_callB call_isi (by rfl) nis (by decide +kernel) (pa_cons (pv 0) (pa_cons (pe_bltn (by rfl) nt (by decide +kernel) (v := .ty "tuple") rfl) pa_nil))))) (pw_or1 (pt_cmpR op_ne (pe_callB call_len_seq (by rfl) nl PySem.boot_len (pa_cons (pv 0) pa_nil)) (pe_callB call_len_seq (by rfl) nl PySem.boot_len (pa_cons (pv 1) pa_nil)) (nomark _))))) (pss_one 
      (ps_ret pe_bl)) pss_nil) (pss_cons 
    (ps_for PassesOwn.never rfl (RZ.pi_zipA (by rfl) nz (pa_cons (pv 0) (pa_cons (pv 1) pa_nil))) (pg_tup (by rfl) (pgs_cons (pg_name (i := 2) sc_Lplain.nd rfl (Or.inl rfl)) (pgs_cons (pg_name (i := 3) sc_Lplain.nd rfl (Or.inl rfl)) pgs_nil))) (pss_one 
      (ps_if (pt_not (pt_val (pcal GP hr pass0 (pa_cons (pv 2) (pa_cons (pv 3) pa_nil))))) (pss_one 
        (ps_ret pe_bl)) pss_nil))) (pss_one 
    (ps_ret pe_bl)))) pss_nil) (pss_cons 
  (ps_if (pt_cmpR op_isN (pv 1) pe_non (nomark _)) (pss_one 
    (ps_ret (pe_cmpR op_isN (pv 0) pe_non (nomark _)))) pss_nil) (pss_cons 
  (ps_if (PW.pt (pw_or (pt_val (pe_callB call_isi (by rfl) nis (by decide +kernel) (pa_cons (pv 1) (pa_cons (pe_bltn (by rfl) nb (by decide +kernel) (v := .ty "bool") rfl) pa_nil)))) (pw_or1 (pt_val (pe_callB call_isi (by rfl) nis (by decide +kernel) (pa_cons (pv 0) (pa_cons (pe_bltn (by rfl) nb (by decide +kernel) (v := .ty "bool") rfl) pa_nil))))))) (pss_one 
    (ps_ret (pe_and (pe_callB call_isi (by rfl) nis (by decide +kernel) (pa_cons (pv 1) (pa_cons (pe_bltn (by rfl) nb (by decide +kernel) (v := .ty "bool") rfl) pa_nil))) (pe_and (pe_callB call_isi (by rfl) nis (by decide +kernel) (pa_cons (pv 0) (pa_cons (pe_bltn (by rfl) nb (by decide +kernel) (v := .ty "bool") rfl) pa_nil))) (pe_one (pe_cmpR op_eq (pv 0) (pv 1) (nomark _))))))) pss_nil) (pss_cons 
  (ps_if (pt_val (pe_callB call_isi (by rfl) nis (by decide +kernel) (pa_cons (pv 1) (pa_cons (pe_bltn (by rfl) ni (by decide +kernel) (v := .ty "int") rfl) pa_nil)))) (pss_one 
    (ps_ret (pe_and (pe_callB call_isi (by rfl) nis (by decide +kernel) (pa_cons (pv 0) (pa_cons (pe_bltn (by rfl) ni (by decide +kernel) (v := .ty "int") rfl) pa_nil))) (pe_one (pe_cmpR op_eq (pv 0) (pv 1) (nomark _)))))) pss_nil) (pss_one 
  (ps_ret (pe_and (pe_callB call_isi (by rfl) nis (by decide +kernel) (pa_cons (pv 0) (pa_cons (pe_bltn (by rfl) ns (by decide +kernel) (v := .ty "str") rfl) pa_nil))) (pe_one (pe_cmpR op_eq (pv 0) (pv 1) (nomark _)))))))))), ?_⟩
    obtain ⟨⟨n, rfl⟩ | ⟨b, rfl⟩, k⟩ := h
    · refine ⟨_, rfl, _, _, _, _, false, rfl, .ty "tuple", .base (.int n), kit_ty kt_int_tuple, _, rfl, iteF ?_⟩
      refine ⟨_, rfl, rfl, _, rfl, if_fa (by simp) ?_⟩
      refine ⟨_, rfl, _, _, _, _, false, rfl, .ty "bool", .base (.int n), kit_ty kt_int_bool, _, rfl, iteF ?_⟩
      refine ⟨_, rfl, _, _, _, _, false, rfl, .ty "bool", .base (.int n), kit_ty kt_int_bool, _, rfl, iteF ?_⟩
      refine ⟨_, rfl, _, _, _, _, true, rfl, .ty "int", .base (.int n), kit_ty kt_int_int, _, rfl, iteT ?_⟩
      refine ⟨_, rfl, _, _, _, _, true, rfl, .ty "int", .base (.int n), kit_ty kt_int_int, _, rfl, if_tr rfl ⟨_, rfl, _, rfl, rfl, ?_⟩⟩
      rw [decide_eq_true rfl]
      exact k
    · refine ⟨_, rfl, _, _, _, _, false, rfl, .ty "tuple", .base (.bl b), kit_ty kt_bool_tuple, _, rfl, iteF ?_⟩
      refine ⟨_, rfl, rfl, _, rfl, if_fa (by simp) ?_⟩
      refine ⟨_, rfl, _, _, _, _, true, rfl, .ty "bool", .base (.bl b), kit_ty kt_bool_bool, _, rfl, iteT ?_⟩
      refine ⟨_, rfl, _, _, _, _, true, rfl, .ty "bool", .base (.bl b), kit_ty kt_bool_bool, _, rfl, if_tr rfl ?_⟩
      refine ⟨_, rfl, _, _, _, _, true, rfl, .ty "bool", .base (.bl b), kit_ty kt_bool_bool, _, rfl, if_tr rfl ⟨_, rfl, _, rfl, rfl, ?_⟩⟩
      rw [decide_eq_true rfl]
      exact k
theorem ok_Lplain1 {f fP : Addr} {fd fdP : FuncData} (F : Fun K "_law_plain" "_law_plain" s_Lplain f fd) (nis : mg "isinstance" = none) (nt : mg "tuple" = none) (nl : mg "len" = none) (nz : mg "zip" = none) (nb : mg "bool" = none) (ni : mg "int" = none) (ns : mg "str" = none) (GP : Cal P w K mg base CX0 1 "_law_plain" fP fdP ["_law_answer", "_law_due"] spP0) : FnOk P w K mg base CX0 2 f fd ["_law_answer", "_law_due"] spP1 := by
  refine F.ok sc_Lplain (fun vs H Q E h => ?_) (fun cdv A outer s H vs Q E hr h => ?_)
  · obtain ⟨a, b, ts, rfl, _⟩ := h
    rfl
  · refine ⟨_, (pss_cons 
  (ps_if (pt_val (pe_callB call_isi (by rfl) nis (by decide +kernel) (pa_cons (pv 1) (pa_cons (pe_bltn (by rfl) nt (by decide +kernel) (v := .ty "tuple") rfl) pa_nil)))) (pss_cons 
    (ps_if (PW.pt (pw_or (pt_not (pt_val (pe_callB call_isi (by rfl) nis (by decide +kernel) (pa_cons (pv 0) (pa_cons (pe_bltn (by rfl) nt (by decide +kernel) (v := .ty "tuple") rfl) pa_nil))))) (pw_or1 (pt_cmpR op_ne (pe_callB call_len_seq (by rfl) nl PySem.boot_len (pa_cons (pv 0) pa_nil)) (pe_callB call_len_seq (by rfl) nl PySem.boot_len (pa_cons (pv 1) pa_nil)) (nomark _))))) (pss_one 
      (ps_ret pe_bl)) pss_nil) (pss_cons 
    (ps_for PassesOwn.never rfl (RZ.pi_zipA (by rfl) nz (pa_cons (pv 0) (pa_cons (pv 1) pa_nil))) (pg_tup (by rfl) (pgs_cons (pg_name (i := 2) sc_Lplain.nd rfl (Or.inl rfl)) (pgs_cons (pg_name (i := 3) sc_Lplain.nd rfl (Or.inl rfl)) pgs_nil))) (pss_one 
      (ps_if (pt_not (pt_val (pcal GP hr pass0 (pa_cons (pv 2) (pa_cons (pv 3) pa_nil))))) (pss_one 
        (ps_ret pe_bl)) pss_nil))) (pss_one 
    (ps_ret pe_bl)))) pss_nil) (pss_cons 
  (ps_if (pt_cmpR op_isN (pv 1) pe_non (nomark _)) (pss_one 
    (ps_ret (pe_cmpR op_isN (pv 0) pe_non (nomark _)))) pss_nil) (pss_cons 
  (ps_if (PW.pt (pw_or (pt_val (pe_callB call_isi (by rfl) nis (by decide +kernel) (pa_cons (pv 1) (pa_cons (pe_bltn (by rfl) nb (by decide +kernel) (v := .ty "bool") rfl) pa_nil)))) (pw_or1 (pt_val (pe_callB call_isi (by rfl) nis (by decide +kernel) (pa_cons (pv 0) (pa_cons (pe_bltn (by rfl) nb (by decide +kernel) (v := .ty "bool") rfl) pa_nil))))))) (pss_one 
    (ps_ret (pe_and (pe_callB call_isi (by rfl) nis (by decide +kernel) (pa_cons (pv 1) (pa_cons (pe_bltn (by rfl) nb (by decide +kernel) (v := .ty "bool") rfl) pa_nil))) (pe_and (pe_callB call_isi (by rfl) nis (by decide +kernel) (pa_cons (pv 0) (pa_cons (pe_bltn (by rfl) nb (by decide +kernel) (v := .ty "bool") rfl) pa_nil))) (pe_one (pe_cmpR op_eq (pv 0) (pv 1) (nomark _))))))) pss_nil) (pss_cons 
  (ps_if (pt_val (pe_callB call_isi (by rfl) nis (by decide +kernel) (pa_cons (pv 1) (pa_cons (pe_bltn (by rfl) ni (by decide +kernel) (v := .ty "int") rfl) pa_nil)))) (pss_one 
    (ps_ret (pe_and (pe_callB call_isi (by rfl) nis (by decide +kernel) (pa_cons (pv 0) (pa_cons (pe_bltn (by rfl) ni (by decide +kernel) (v := .ty "int") rfl) pa_nil))) (pe_one (pe_cmpR op_eq (pv 0) (pv 1) (nomark _)))))) pss_nil) (pss_one 
  (ps_ret (pe_and (pe_callB call_isi (by rfl) nis (by decide +kernel) (pa_cons (pv 0) (pa_cons (pe_bltn (by rfl) ns (by decide +kernel) (v := .ty "str") rfl) pa_nil))) (pe_one (pe_cmpR op_eq (pv 0) (pv 1) (nomark _)))))))))), ?_⟩
    obtain ⟨a, b, ts, rfl, ea, eb, k⟩ := h
    refine ⟨_, rfl, _, _, _, _, true, rfl, .ty "tuple", .base (.tup eb), kit_ty kt_tuple_tuple, _, rfl, iteT ?_⟩
    refine ⟨_, rfl, _, _, _, _, true, rfl, .ty "tuple", .base (.tup ea), kit_ty kt_tuple_tuple, _, rfl, iteF ?_⟩
    refine ⟨_, rfl, a, _, rfl, .inr (SqT.of ea), _, rfl, b, _, rfl, .inr (SqT.of eb), rfl, _, rfl, if_fa (by simp) ?_⟩
    refine ⟨_, rfl, _, rfl, a, b, _, _, rfl, .inr ⟨SqT.of ea, SqT.of eb, RZ.for_zipT (K := K) rfl (fun i σ H' => ∃ v2 v3 : Option V, σ = [some (.ref a), some (.ref b), v2, v3] ∧ Same H H') ⟨none, none, rfl, Same.refl _⟩ (fun i σ H' ⟨_, _, _, S⟩ => ⟨SqT.of (S _ _ ea), SqT.of (S _ _ eb)⟩) ?_ ?_⟩⟩
    · rintro i x y T σ H' hx hy ⟨v2, v3, rfl, S⟩ hT
      rw [hx] at hy
      obtain rfl := Option.some.inj hy
      rw [List.getElem?_map] at hx
      cases et : ts[i]? with
      | none => rw [et] at hx; cases hx
      | some n =>
        rw [et] at hx
        obtain rfl := Option.some.inj hx
        refine ⟨T, _, rfl, SqT.of upd_same, rfl, _, _, rfl, _, _, rfl, rfl, ?_⟩
        exact ⟨_, rfl, _, rfl, .inl ⟨n, rfl⟩, _, rfl, iteF ⟨_, _, rfl, S.trans (new_same hT)⟩⟩
    · rintro σ H' ⟨v2, v3, rfl, S⟩
      exact k _ S
theorem ok_Lplain2 {f fP : Addr} {fd fdP : FuncData} (F : Fun K "_law_plain" "_law_plain" s_Lplain f fd) (nis : mg "isinstance" = none) (nt : mg "tuple" = none) (nl : mg "len" = none) (nz : mg "zip" = none) (nb : mg "bool" = none) (ni : mg "int" = none) (ns : mg "str" = none) (GP : Cal P w K mg base CX0 2 "_law_plain" fP fdP ["_law_answer", "_law_due"] spP1) : FnOk P w K mg base CX0 3 f fd ["_law_answer", "_law_due"] spP2 := by
  refine F.ok sc_Lplain (fun vs H Q E h => ?_) (fun cdv A outer s H vs Q E hr h => ?_)
  · obtain ⟨a, b, L, rfl, _⟩ := h
    rfl
  · refine ⟨_, (pss_cons 
  (ps_if (pt_val (pe_callB call_isi (by rfl) nis (by decide +kernel) (pa_cons (pv 1) (pa_cons (pe_bltn (by rfl) nt (by decide +kernel) (v := .ty "tuple") rfl) pa_nil)))) (pss_cons 
    (ps_if (PW.pt (pw_or (pt_not (pt_val (pe_callB call_isi (by rfl) nis (by decide +kernel) (pa_cons (pv 0) (pa_cons (pe_bltn (by rfl) nt (by decide +kernel) (v := .ty "tuple") rfl) pa_nil))))) (pw_or1 (pt_cmpR op_ne (pe_callB call_len_seq (by rfl) nl PySem.boot_len (pa_cons (pv 0) pa_nil)) (pe_callB call_len_seq (by rfl) nl PySem.boot_len (pa_cons (pv 1) pa_nil)) (nomark _))))) (pss_one 
      (ps_ret pe_bl)) pss_nil) (pss_cons 
    (ps_for PassesOwn.never rfl (RZ.pi_zipA (by rfl) nz (pa_cons (pv 0) (pa_cons (pv 1) pa_nil))) (pg_tup (by rfl) (pgs_cons (pg_name (i := 2) sc_Lplain.nd rfl (Or.inl rfl)) (pgs_cons (pg_name (i := 3) sc_Lplain.nd rfl (Or.inl rfl)) pgs_nil))) (pss_one 
      (ps_if (pt_not (pt_val (pcal GP hr pass0 (pa_cons (pv 2) (pa_cons (pv 3) pa_nil))))) (pss_one 
        (ps_ret pe_bl)) pss_nil))) (pss_one 
    (ps_ret pe_bl)))) pss_nil) (pss_cons 
  (ps_if (pt_cmpR op_isN (pv 1) pe_non (nomark _)) (pss_one 
    (ps_ret (pe_cmpR op_isN (pv 0) pe_non (nomark _)))) pss_nil) (pss_cons 
  (ps_if (PW.pt (pw_or (pt_val (pe_callB call_isi (by rfl) nis (by decide +kernel) (pa_cons (pv 1) (pa_cons (pe_bltn (by rfl) nb (by decide +kernel) (v := .ty "bool") rfl) pa_nil)))) (pw_or1 (pt_val (pe_callB call_isi (by rfl) nis (by decide +kernel) (pa_cons (pv 0) (pa_cons (pe_bltn (by rfl) nb (by decide +kernel) (v := .ty "bool") rfl) pa_nil))))))) (pss_one 
    (ps_ret (pe_and (pe_callB call_isi (by rfl) nis (by decide +kernel) (pa_cons (pv 1) (pa_cons (pe_bltn (by rfl) nb (by decide +kernel) (v := .ty "bool") rfl) pa_nil))) (pe_and (pe_callB call_isi (by rfl) nis (by decide +kernel) (pa_cons (pv 0) (pa_cons (pe_bltn (by rfl) nb (by decide +kernel) (v := .ty "bool") rfl) pa_nil))) (pe_one (pe_cmpR op_eq (pv 0) (pv 1) (nomark _))))))) pss_nil) (pss_cons 
  (ps_if (pt_val (pe_callB call_isi (by rfl) nis (by decide +kernel) (pa_cons (pv 1) (pa_cons (pe_bltn (by rfl) ni (by decide +kernel) (v := .ty "int") rfl) pa_nil)))) (pss_one 
    (ps_ret (pe_and (pe_callB call_isi (by rfl) nis (by decide +kernel) (pa_cons (pv 0) (pa_cons (pe_bltn (by rfl) ni (by decide +kernel) (v := .ty "int") rfl) pa_nil))) (pe_one (pe_cmpR op_eq (pv 0) (pv 1) (nomark _)))))) pss_nil) (pss_one 
  (ps_ret (pe_and (pe_callB call_isi (by rfl) nis (by decide +kernel) (pa_cons (pv 0) (pa_cons (pe_bltn (by rfl) ns (by decide +kernel) (v := .ty "str") rfl) pa_nil))) (pe_one (pe_cmpR op_eq (pv 0) (pv 1) (nomark _)))))))))), ?_⟩
    obtain ⟨a, b, L, rfl, ⟨ps, ea, la, ha⟩, ⟨qs, eb, lb, hb⟩, k⟩ := h
    have ll : (ps.map V.ref).length = (qs.map V.ref).length := by rw [List.length_map, List.length_map, la, lb]
    refine ⟨_, rfl, _, _, _, _, true, rfl, .ty "tuple", .base (.tup eb), kit_ty kt_tuple_tuple, _, rfl, iteT ?_⟩
    refine ⟨_, rfl, _, _, _, _, true, rfl, .ty "tuple", .base (.tup ea), kit_ty kt_tuple_tuple, _, rfl, iteF ?_⟩
    refine ⟨_, rfl, a, _, rfl, .inr (SqT.of ea), _, rfl, b, _, rfl, .inr (SqT.of eb), rfl, _, rfl, if_fa (by rw [ll]; simp) ?_⟩
    refine ⟨_, rfl, _, rfl, a, b, _, _, rfl, .inr ⟨SqT.of ea, SqT.of eb, RZ.for_zipT (K := K) ll (fun i σ H' => ∃ v2 v3 : Option V, σ = [some (.ref a), some (.ref b), v2, v3] ∧ Same H H') ⟨none, none, rfl, Same.refl _⟩ (fun i σ H' ⟨_, _, _, S⟩ => ⟨SqT.of (S _ _ ea), SqT.of (S _ _ eb)⟩) ?_ ?_⟩⟩
    · rintro i x y T σ H' hx hy ⟨v2, v3, rfl, S⟩ hT
      rw [List.getElem?_map] at hx hy
      have hi : i < ps.length := by
        cases e : ps[i]? with
        | none => rw [e] at hx; cases hx
        | some _ => exact (List.getElem?_eq_some_iff.mp e).1
      have e1 := List.getElem?_eq_getElem hi
      have e2 := List.getElem?_eq_getElem (l := qs) (i := i) (by omega)
      have e3 := List.getElem?_eq_getElem (l := L) (i := i) (by omega)
      rw [e1] at hx
      rw [e2] at hy
      obtain rfl := Option.some.inj hx
      obtain rfl := Option.some.inj hy
      have S' := S.trans (new_same (o := .tup [.ref ps[i], .ref qs[i]]) hT)
      refine ⟨T, _, rfl, SqT.of upd_same, rfl, _, _, rfl, _, _, rfl, rfl, ?_⟩
      exact ⟨_, rfl, _, rfl, _, _, L[i], rfl, S' _ _ (ha i _ _ e1 e3), S' _ _ (hb i _ _ e2 e3), fun H2 S2 => ⟨_, rfl, iteF ⟨_, _, rfl, S'.trans S2⟩⟩⟩
    · rintro σ H' ⟨v2, v3, rfl, S⟩
      exact k _ S
end
end J

set_option Elab.async false
set_option linter.all false
set_option maxRecDepth 100000
set_option maxHeartbeats 8000000
namespace J
open PySem PySem.Spec PyProof.Rows L2
abbrev s_Lpick : Stmt := top 31
theorem sc_Lpick : FnScope ["_law_hand_here", "_law_things"] ["_law_hand_here", "_law_things"] (defScope s_Lpick) := ⟨rfl, rfl, rfl, by decide +kernel, rfl, by decide +kernel, by decide +kernel⟩
def spPick : Sp := fun vs H Q _ => ∃ (h q l : Addr) (xs : List V), vs = [.ref h, .ref l] ∧ Hand H h q ∧ l ≠ h ∧ H l = some (.lst xs) ∧ 0 < xs.length ∧ xs.length ≤ 1000 ∧ ∀ (H' : Hp) (y : V), y ∈ xs → But h H H' → Hand H' h q → Q y H'

def addAll (L : List (List Int)) : List (List Int) → List (List Int)
  | [] => L
  | t :: ts => addAll (if t ∈ L then L else L ++ [t]) ts
theorem addAll_snoc : ∀ {ts : List (List Int)} {L : List (List Int)} {t : List Int}, addAll L (ts ++ [t]) = if t ∈ addAll L ts then addAll L ts else addAll L ts ++ [t]
  | [], L, t => rfl
  | x :: ts, L, t => addAll_snoc (ts := ts)
theorem addAll_len : ∀ {ts L : List (List Int)}, (addAll L ts).length ≤ L.length + ts.length
  | [], L => by simp [addAll]
  | t :: ts, L => by
    have h := addAll_len (ts := ts) (L := if t ∈ L then L else L ++ [t])
    show (addAll (if t ∈ L then L else L ++ [t]) ts).length ≤ _
    rw [List.length_cons]
    split at h
    · rename_i c; rw [if_pos c]; omega
    · rename_i c; rw [if_neg c]; rw [List.length_append] at h; simp at h; omega
theorem addAll_mem : ∀ {ts L : List (List Int)} {x : List Int}, x ∈ addAll L ts ↔ x ∈ L ∨ x ∈ ts
  | [], L, x => by simp [addAll]
  | t :: ts, L, x => by
    show x ∈ addAll (if t ∈ L then L else L ++ [t]) ts ↔ _
    rw [addAll_mem, List.mem_cons]
    by_cases c : t ∈ L
    · rw [if_pos c]
      constructor
      · rintro (h | h) <;> simp [h]
      · rintro (h | h | h)
        · exact .inl h
        · exact .inl (h ▸ c)
        · exact .inr h
    · rw [if_neg c, List.mem_append, List.mem_singleton, or_assoc]
theorem addAll_nodup : ∀ {ts L : List (List Int)}, L.Nodup → (addAll L ts).Nodup
  | [], L, h => h
  | t :: ts, L, h => by
    show (addAll (if t ∈ L then L else L ++ [t]) ts).Nodup
    refine addAll_nodup ?_
    by_cases c : t ∈ L
    · rw [if_pos c]; exact h
    · rw [if_neg c, List.nodup_append]
      exact ⟨h, by simp, fun a ha b hb => by rw [List.mem_singleton] at hb; subst hb; exact fun e => c (e ▸ ha)⟩
theorem units65 {k : Nat} {A : Around} (r : Room k A) : A.units + 65 < cLine := by have := r.un; omega
theorem perm_map_inv {α β : Type} {f : α → β} : ∀ {ys ws : List β}, ys.Perm ws → ∀ {zs : List α}, ws = zs.map f → ∃ zs' : List α, zs'.Perm zs ∧ ys = zs'.map f := by
  intro ys ws h
  induction h with
  | nil => intro zs e; exact ⟨[], by rw [List.eq_nil_of_map_eq_nil e.symm], rfl⟩
  | cons x h ih =>
    intro zs e
    cases zs with
    | nil => cases e
    | cons z zs =>
      rw [List.map_cons] at e
      injection e with e1 e2
      obtain ⟨zs', p, q⟩ := ih e2
      exact ⟨z :: zs', p.cons z, by rw [List.map_cons, e1, q]⟩
  | swap x y l =>
    intro zs e
    match zs, e with
    | a :: b :: r, e =>
      rw [List.map_cons, List.map_cons] at e
      injection e with e1 e2
      injection e2 with e2 e3
      exact ⟨b :: a :: r, List.Perm.swap a b r, by rw [List.map_cons, List.map_cons, e1, e2, e3]⟩
  | trans h1 h2 ih1 ih2 =>
    intro zs e
    obtain ⟨zs', p, q⟩ := ih2 e
    obtain ⟨zs2, p2, q2⟩ := ih1 q
    exact ⟨zs2, p2.trans p, q2⟩
theorem Gro.keep {H1 H H' : Hp} {D : Addr} {L : List (List Int)} (G : Gro H1 H D L) (S : Same H H') : Gro H1 H' D L := by
  obtain ⟨ps, e1, e2, e3⟩ := G.d
  exact ⟨G.S.trans S, G.n, ps, S _ _ e1, e2, fun j a ts q1 q2 => ⟨(e3 j a ts q1 q2).1, S _ _ (e3 j a ts q1 q2).2⟩⟩
theorem Gro.app {H1 H : Hp} {D z : Addr} {L : List (List Int)} {ts : List Int} (G : Gro H1 H D L) (ez : H z = some (.tup (ts.map V.int))) : ∃ acc, H D = some (.lst acc) ∧ acc.length = L.length ∧ Gro H1 (upd H D (.lst (acc ++ [.ref z]))) D (L ++ [ts]) := by
  obtain ⟨ps, e1, e2, e3⟩ := G.d
  have nz : z ≠ D := ne_of ez e1 (by intro z; cases z)
  refine ⟨ps.map V.ref, e1, by rw [List.length_map, e2], fun b o e => ?_, G.n, ps ++ [z], by rw [upd_same, List.map_append]; rfl, by rw [List.length_append, List.length_append, e2]; rfl, fun j a us q1 q2 => ?_⟩
  · rw [upd_ne (ne_of_none e G.n)]
    exact G.S _ _ e
  · rcases Nat.lt_or_ge j ps.length with hj | hj
    · rw [List.getElem?_append_left hj] at q1
      rw [List.getElem?_append_left (by omega)] at q2
      obtain ⟨w1, w2⟩ := e3 j a us q1 q2
      exact ⟨w1, by rw [upd_ne w1]; exact w2⟩
    · have hj2 : j = ps.length := by
        have := (List.getElem?_eq_some_iff.mp q1).1
        rw [List.length_append] at this
        have l : [z].length = 1 := rfl
        omega
      subst hj2
      rw [List.getElem?_append_right (Nat.le_refl _), Nat.sub_self] at q1
      rw [e2, List.getElem?_append_right (Nat.le_refl _), Nat.sub_self] at q2
      obtain rfl : z = a := Option.some.inj q1
      obtain rfl : ts = us := Option.some.inj q2
      exact ⟨nz, by rw [upd_ne nz]; exact ez⟩
/-- lists of tuples as data -/
def tupsD (L : List (List Int)) : List PyData := L.map fun ts => .tuple (ts.map PyData.int)
theorem lay_tupsD : ∀ L : List (List Int), PyData.canLayAll0 (tupsD L) = true ∧ PyData.depthAll (tupsD L) ≤ 2
  | [] => by simp [tupsD, PyData.canLayAll0, PyData.depthAll]
  | t :: ts => by
    obtain ⟨a, b⟩ := lay_tupsD ts
    have h1 := ints_lay t
    have h2 := ints_depth t
    refine ⟨?_, ?_⟩
    · show (PyData.canLay0 (.tuple (t.map PyData.int)) && PyData.canLayAll0 (tupsD ts)) = true
      rw [a, Bool.and_true]
      simp only [PyData.canLay0]
      exact h1
    · show max (PyData.depth (.tuple (t.map PyData.int))) (PyData.depthAll (tupsD ts)) ≤ 2
      simp only [PyData.depth]
      omega
theorem shaped_tupsD (L : List (List Int)) : SeqAt.shaped (.list (tupsD L)) = true := by
  obtain ⟨a, b⟩ := lay_tupsD L
  show (PyData.canLay0 (.list (tupsD L)) && decide (PyData.depth (.list (tupsD L)) ≤ 64)) = true
  rw [Bool.and_eq_true]
  refine ⟨by simp only [PyData.canLay0]; exact a, decide_eq_true ?_⟩
  simp only [PyData.depth]
  omega
theorem dp_tupsD {K : PySem.W.Frag} {H : Hp} : ∀ {ps : List Addr} {L : List (List Int)}, ps.length = L.length → (∀ (j : Nat) (a : Addr) (ts : List Int), ps[j]? = some a → L[j]? = some ts → H a = some (.tup (ts.map V.int))) → DpAll K H (ps.map V.ref) (tupsD L)
  | [], [], _, _ => .nil
  | [], _ :: _, h, _ => by cases h
  | _ :: _, [], h, _ => by cases h
  | p :: ps, t :: ts, h, f => .cons (.tup (SqT.of (f 0 p t rfl rfl)) (dp_ints t)) (dp_tupsD (Nat.succ.inj h) fun j a b e1 e2 => f (j + 1) a b (by simpa using e1) (by simpa using e2))
theorem Gro.data {K : PySem.W.Frag} {H1 H : Hp} {D : Addr} {L : List (List Int)} (G : Gro H1 H D L) : Dp K H (.ref D) (.list (tupsD L)) ∧ SeqAt.shaped (.list (tupsD L)) = true := by
  obtain ⟨ps, e1, e2, e3⟩ := G.d
  exact ⟨.lst (SqL.of e1) (dp_tupsD e2 fun j a ts q1 q2 => (e3 j a ts q1 q2).2), shaped_tupsD L⟩
theorem any_tup {t : List Int} : ∀ {L : List (List Int)}, ((tupsD L).any fun z => PyData.eqv z (.tuple (t.map PyData.int))) = decide (t ∈ L)
  | [] => by simp [tupsD]
  | u :: L => by
    have ih := any_tup (t := t) (L := L)
    show (PyData.eqv (.tuple (u.map PyData.int)) (.tuple (t.map PyData.int)) || (tupsD L).any fun z => PyData.eqv z (.tuple (t.map PyData.int))) = _
    rw [eqv_ti, ih]
    by_cases h : u = t
    · simp [h]
    · have h' : ¬ t = u := fun e => h e.symm
      simp [h, h']
def LstsAt (H : Hp) (z : Addr) (L : List (List Int)) : Prop := ∃ ps : List Addr, H z = some (.lst (ps.map V.ref)) ∧ ps.length = L.length ∧ ∀ (j : Nat) (a : Addr) (ts : List Int), ps[j]? = some a → L[j]? = some ts → H a = some (.tup (ts.map V.int))
theorem LstsAt.keep {H H' : Hp} {z : Addr} {L : List (List Int)} (h : LstsAt H z L) (S : Same H H') : LstsAt H' z L := by
  obtain ⟨ps, a, b, c⟩ := h
  exact ⟨ps, S _ _ a, b, fun j x ts e1 e2 => S _ _ (c j x ts e1 e2)⟩
abbrev s_Lshape : Stmt := top 38
theorem sc_Lshape : FnScope ["_law_hand_here", "_law_row"] ["_law_hand_here", "_law_row"] (defScope s_Lshape) := ⟨rfl, rfl, rfl, by decide +kernel, rfl, by decide +kernel, by decide +kernel⟩
def spShape : Sp := fun vs H Q _ => ∃ (h q t : Addr) (ts : List Int), vs = [.ref h, .ref t] ∧ Hand H h q ∧ H t = some (.tup (ts.map V.int)) ∧ ∀ (H' : Hp) (z : Addr) (s : Sh), But h H H' → Hand H' h q → Is H' (.ref z) s → items s = ts.map V.int → (s.isL || s.isT) = true → z ≠ h → Q (.ref z) H'
section
variable {P : Program} {w : World} {K : PySem.W.Frag} {mg : Str → Option Value} {base : Heap}
theorem ok_Lpick {f fD : Addr} {fd fdD : FuncData} (F : Fun K "_law_pick" "_law_pick" s_Lpick f fd) (nl : mg "len" = none) (GD : Cal P w K mg base CX0 2 "_law_draw" fD fdD ["_law_hand_here", "_law_many"] spDraw) : FnOk P w K mg base CX0 3 f fd ["_law_hand_here", "_law_things"] spPick := by
  refine F.ok sc_Lpick (fun vs H Q E h => ?_) (fun cdv A outer s H vs Q E hr h => ?_)
  · obtain ⟨h, q, l, xs, rfl, _⟩ := h
    rfl
  · obtain ⟨h, q, l, xs, rfl, hh, nlh, el, g0, g1, k⟩ := h
    refine ⟨_, (pss_one (ps_ret (pe_ix ix_list (pv 1) (pcal GD hr pass0 (pa_cons (pv 0) (pa_cons (pe_callB call_len_seq (by rfl) nl PySem.boot_len (pa_cons (pv 1) pa_nil)) pa_nil))) (fun _ _ => rfl)))), ?_⟩
    refine ⟨_, rfl, _, rfl, _, rfl, l, xs, rfl, .inl (SqL.of el), h, q, _, rfl, by omega, by omega, hh, fun v H1 v0 v1 b1 h1 => ?_⟩
    have hv : v.toNat < xs.length := by omega
    exact ⟨l, xs, v, xs[v.toNat], rfl, rfl, SqL.of (b1 _ _ nlh el), at_of (j := v.toNat) (by omega) (List.getElem?_eq_getElem hv), k H1 _ (List.getElem_mem hv) b1 h1⟩

theorem ok_Lshape {f fD : Addr} {fd fdD : FuncData} (F : Fun K "_law_shape" "_law_shape" s_Lshape f fd) (nli : mg "list" = none) (nt : mg "tuple" = none) (GD : Cal P w K mg base CX0 2 "_law_draw" fD fdD ["_law_hand_here", "_law_many"] spDraw) : FnOk P w K mg base CX0 3 f fd ["_law_hand_here", "_law_row"] spShape := by
  refine F.ok sc_Lshape (fun vs H Q E h => ?_) (fun cdv A outer s H vs Q E hr h => ?_)
  · obtain ⟨h, q, t, ts, rfl, _⟩ := h
    rfl
  · obtain ⟨h, q, t, ts, rfl, hh, et, k⟩ := h
    refine ⟨_, (pss_cons 
  (ps_if (pt_cmpR op_eq (pcal GD hr pass0 (pa_cons (pv 0) (pa_cons pe_int pa_nil))) pe_int (nomark _)) (pss_one 
    (ps_ret (pe_callTy (T := "list") (r := rLst K) call_list_of (by rfl) nli (by decide +kernel) (pa_cons (pv 1) pa_nil)))) pss_nil) (pss_one 
  (ps_ret (pe_callTy (T := "tuple") (r := rTup K) call_tuple_of (by rfl) nt (by decide +kernel) (pa_cons (pv 1) pa_nil))))), ?_⟩
    obtain ⟨cs, i, r, u, eh, _⟩ := id hh
    have nth : t ≠ h := ne_of et eh (by intro z; cases z)
    refine ⟨_, rfl, h, q, 2, rfl, by decide, by decide, hh, fun v H1 v0 v2 b1 h1 => ⟨rfl, _, rfl, ?_⟩⟩
    have et1 := b1 _ _ nth et
    refine ifD (fun c => ?_) (fun c => ?_)
    · refine ⟨_, rfl, t, _, rfl, .inr (SqT.of et1), fun z hz => ?_⟩
      exact k _ z (.lst (ts.map V.int)) (b1.trans (But.new hz)) (h1.new hz) ⟨z, rfl, upd_same⟩ rfl rfl (fun e => by
        obtain ⟨_, _, _, _, e1, _⟩ := h1
        rw [e] at hz
        rw [hz] at e1
        cases e1)
    · exact ⟨_, rfl, t, _, rfl, .inr ⟨SqT.of et1, k _ t (.tup (ts.map V.int)) b1 h1 ⟨t, rfl, et1⟩ rfl rfl nth⟩⟩
end
end J

set_option Elab.async false
set_option linter.all false
set_option maxRecDepth 100000
set_option maxHeartbeats 8000000
namespace J
open PySem PySem.Spec PyProof.Rows L2
/-! ### isinstance of the caught error, an error with fields -/
def rIsX (K : PySem.W.Frag) (C a : Addr) (cls : Value) (d : Option Addr) : List V → Hp → VK → Prop := fun xs H Q => ∃ (c : V) (cv : Value) (b : Bool) (dd : Addr) (fs : List (Str × V)), xs = [.ref a, c] ∧ cls = .ref C ∧ d = some dd ∧ H dd = some (.xd fs) ∧ ClsV c cv ∧ PySem.W.kitOne K (.ref C) cv = some b ∧ Q (.bl b) H
theorem call_isX {X : Cx} {a C : Addr} {oe : Obj} {cls : Value} {d : Option Addr} {pn : List (Addr × Obj)} (E : ExcC X.K C) (hz : Zc cls d oe) (hf : ∃ vs, oe.data = .fields vs) : CallR (X.suite a ((a, oe) :: pn)) (.builtin "isinstance") (rIsX X.K C a cls d) := by
  intro pins s σ H xs us Q I r h
  obtain ⟨c, cv, b, dd, fs, rfl, rfl, rfl, ea, k, e, q⟩ := h
  obtain ⟨u1, u2, rfl, r1, r2⟩ := vals2 r
  have e2 := k.eq r2
  subst e2
  obtain rfl : u1 = Value.ref a := r1
  obtain ⟨hget, _⟩ := I.pin (a, oe) (List.mem_append_left _ List.mem_cons_self)
  obtain ⟨vs, hd⟩ := hf
  have hx : ObjOk X.prog X.w H s.heap dd (.xd fs) := I.hok dd _ ea
  obtain ⟨mA, hns, hr⟩ := hx
  obtain ⟨od, ho, hl⟩ := lookIn_ns hns
  have J : PySem.W.InstAt s.heap a oe C (some od) := ⟨hget, hz.1, by unfold PySem.W.notCls; rw [hd] <;> rfl, by rw [hz.2]; exact ho⟩
  have hcl : (PySem.W.clsIn X.K C).isSome = true := by
    obtain ⟨cd, hc, _⟩ := PySem.W.any_some E.hd
    rw [hc]
    rfl
  exact PySem.W.kia_one (PySem.W.kitx_exc hcl E.hg E.hk E.hs E.ha E.hn E.ht E.hm) I.kIn J e (fun z => nomatch z) fun tk => ⟨.bl b, H, I.tok tk, rfl, q⟩
/-! ### things that are no threes -/
/-- an item: a thing with its data -/
def Itm (K : PySem.W.Frag) (H : Hp) (y : V) : Prop := (∃ s, Is H y s) ∧ ∃ d : PyData, d.canLay0 = true ∧ d.depth ≤ 1 ∧ ∀ H', Same H H' → Dp K H' y d
theorem Itm.keep {K : PySem.W.Frag} {H H' : Hp} {y : V} (h : Itm K H y) (S : Same H H') : Itm K H' y := by
  obtain ⟨⟨s, a⟩, d, b, c, e⟩ := h
  exact ⟨⟨s, a.keep S⟩, d, b, c, fun H2 S2 => e H2 (S.trans S2)⟩
theorem itm_int {K : PySem.W.Frag} {H : Hp} (n : Int) : Itm K H (.int n) := ⟨⟨.sc (.int n), rfl, rfl⟩, .int n, by simp [PyData.canLay0], by simp [PyData.depth], fun _ _ => .int n⟩
theorem itm_bl {K : PySem.W.Frag} {H : Hp} (b : Bool) : Itm K H (.bl b) := ⟨⟨.sc (.bl b), rfl, rfl⟩, .bool b, by simp [PyData.canLay0], by simp [PyData.depth], fun _ _ => .bl b⟩
theorem itm_non {K : PySem.W.Frag} {H : Hp} : Itm K H .non := ⟨⟨.sc .non, rfl, rfl⟩, .none, by simp [PyData.canLay0], by simp [PyData.depth], fun _ _ => .non⟩
theorem itm_tup {K : PySem.W.Frag} {H : Hp} {z : Addr} (h : H z = some (.tup [.int 0])) : Itm K H (.ref z) := ⟨⟨.tup _, z, rfl, h⟩, .tuple [.int 0], by simp [PyData.canLay0, PyData.canLayAll0], by simp [PyData.depth, PyData.depthAll], fun H' S => .tup (SqT.of (S _ _ h)) (.cons (.int 0) .nil)⟩
theorem itm_all {K : PySem.W.Frag} {H : Hp} : ∀ {xs : List V}, (∀ y ∈ xs, Itm K H y) → ∃ ds : List PyData, PyData.canLayAll0 ds = true ∧ PyData.depthAll ds ≤ 1 ∧ ∀ H', Same H H' → DpAll K H' xs ds
  | [], _ => ⟨[], by simp [PyData.canLayAll0], by simp [PyData.depthAll], fun _ _ => .nil⟩
  | x :: xs, h => by
    obtain ⟨ds, a, b, c⟩ := itm_all (xs := xs) fun y hy => h y (List.mem_cons_of_mem _ hy)
    obtain ⟨_, d, a1, b1, c1⟩ := h x List.mem_cons_self
    refine ⟨d :: ds, by simp only [PyData.canLayAll0, a1, a, Bool.and_self], ?_, fun H' S => .cons (c1 H' S) (c H' S)⟩
    simp only [PyData.depthAll]
    omega
/-- no three of m ties -/
def BadT (K : PySem.W.Frag) (m : Nat) (H : Hp) (v : V) (s : Sh) : Prop := Is H v s ∧ Known H (items s) ∧ (∀ ns : List Int, ns.length = m → threeB ns s = false) ∧ ∃ d : PyData, SeqAt.shaped d = true ∧ PyData.eqv d d = true ∧ ∀ H', Same H H' → Dp K H' v d
theorem BadT.keep {K : PySem.W.Frag} {m : Nat} {H H' : Hp} {v : V} {s : Sh} (h : BadT K m H v s) (S : Same H H') : BadT K m H' v s := by
  obtain ⟨a, b, c, d, e, f, g⟩ := h
  exact ⟨a.keep S, fun y hy => by obtain ⟨t, ht⟩ := b y hy; exact ⟨t, ht.keep S⟩, c, d, e, f, fun H2 S2 => g H2 (S.trans S2)⟩
theorem badT_lst {K : PySem.W.Frag} {m : Nat} {H : Hp} {z : Addr} {xs : List V} (e : H z = some (.lst xs)) (h : ∀ y ∈ xs, Itm K H y) (b : ∀ ns : List Int, ns.length = m → threeB ns (.lst xs) = false) : BadT K m H (.ref z) (.lst xs) := by
  obtain ⟨ds, a1, a2, a3⟩ := itm_all h
  refine ⟨⟨z, rfl, e⟩, fun y hy => (h y hy).1, b, .list ds, ?_, ?_, fun H' S => .lst (SqL.of (S _ _ e)) (a3 H' S)⟩
  · show (PyData.canLay0 (.list ds) && decide (PyData.depth (.list ds) ≤ 64)) = true
    rw [Bool.and_eq_true]
    refine ⟨by simp only [PyData.canLay0]; exact a1, decide_eq_true ?_⟩
    simp only [PyData.depth]
    omega
  · simp only [PyData.eqv]
    exact SeqAt.eqvAll_refl ds a1
theorem badT_tup {K : PySem.W.Frag} {m : Nat} {H : Hp} {z : Addr} {xs : List V} (e : H z = some (.tup xs)) (h : ∀ y ∈ xs, Itm K H y) (b : ∀ ns : List Int, ns.length = m → threeB ns (.tup xs) = false) : BadT K m H (.ref z) (.tup xs) := by
  obtain ⟨ds, a1, a2, a3⟩ := itm_all h
  refine ⟨⟨z, rfl, e⟩, fun y hy => (h y hy).1, b, .tuple ds, ?_, ?_, fun H' S => .tup (SqT.of (S _ _ e)) (a3 H' S)⟩
  · show (PyData.canLay0 (.tuple ds) && decide (PyData.depth (.tuple ds) ≤ 64)) = true
    rw [Bool.and_eq_true]
    refine ⟨by simp only [PyData.canLay0]; exact a1, decide_eq_true ?_⟩
    simp only [PyData.depth]
    omega
  · simp only [PyData.eqv]
    exact SeqAt.eqvAll_refl ds a1
theorem badT_sc {K : PySem.W.Frag} {m : Nat} {H : Hp} {v : V} {d : PyData} (s : isSc v = true) (a1 : d.canLay0 = true) (a2 : d.depth ≤ 1) (a3 : PyData.eqv d d = true) (a4 : ∀ H', Dp K H' v d) : BadT K m H v (.sc v) := by
  refine ⟨(⟨rfl, s⟩ : v = v ∧ isSc v = true), (fun y hy => by cases hy), fun _ _ => rfl, d, ?_, a3, fun H' _ => a4 H'⟩
  show (d.canLay0 && decide (d.depth ≤ 64)) = true
  rw [a1, Bool.true_and]
  exact decide_eq_true (by omega)
theorem all3 {f : V → Bool} {a b c : V} (h : f a = false ∨ f b = false ∨ f c = false) : (decide (([a, b, c] : List V).length = 3) && ([a, b, c] : List V).all f) = false := by
  rcases h with h | h | h <;> simp [h]
/-- an item that is no tie of m ties -/
def Odd (m : Nat) (y : V) : Prop := ∀ ns : List Int, ns.length = m → tieB ns y = false
theorem odd_int {m : Nat} {n : Int} (h : n < 0 ∨ (m : Int) ≤ n) : Odd m (.int n) := fun ns hn => by
  cases e : tieB ns (.int n) with
  | false => rfl
  | true =>
    obtain ⟨i, b, e1, e2⟩ := tieB_true e
    injection e1 with e1
    have := (List.getElem?_eq_some_iff.mp e2).1
    omega
theorem odd_sc {m : Nat} {y : V} (h : ∀ n : Int, y ≠ .int n) : Odd m y := fun ns hn => by
  cases e : tieB ns y with
  | false => rfl
  | true =>
    obtain ⟨i, b, e1, e2⟩ := tieB_true e
    exact absurd e1 (h _)
section
variable {P : Program} {w : World} {K : PySem.W.Frag} {mg : Str → Option Value} {base : Heap}
theorem no_three {ns : List Int} {s : Sh} (h : threeB ns s = false) {A : Prop} {p q r : Int} (e : items s = [.int p, .int q, .int r]) (ip : InT ns p) (iq : InT ns q) (ir : InT ns r) : A := by
  have t : ([V.int p, .int q, .int r] : List V).all (tieB ns) = true := by
    simp only [List.all_cons, List.all_nil, tie_in ip, tie_in iq, tie_in ir, Bool.and_self]
  cases s with
  | sc u => cases e
  | dk => cases e
  | lst xs =>
    obtain rfl : xs = _ := e
    have q : (decide (([V.int p, .int q, .int r] : List V).length = 3) && ([V.int p, .int q, .int r] : List V).all (tieB ns)) = false := h
    rw [t] at q
    cases q
  | tup xs =>
    obtain rfl : xs = _ := e
    have q : (decide (([V.int p, .int q, .int r] : List V).length = 3) && ([V.int p, .int q, .int r] : List V).all (tieB ns)) = false := h
    rw [t] at q
    cases q
theorem iteT' {b : Bool} {A B : Prop} (e : b = true) (h : A) : if b = true then A else B := by
  rw [if_pos e]
  exact h
end
end J

set_option Elab.async false
set_option linter.all false
set_option maxRecDepth 100000
set_option maxHeartbeats 8000000
namespace J
open PySem PySem.Spec PyProof.Rows L2
/-! ### ascending lists, readings once more -/
theorem asc_unique {α : Type} {f : α → Int} : ∀ {L1 L2 : List α}, L1.Pairwise (fun a b => f a < f b) → L2.Pairwise (fun a b => f a < f b) → (∀ x, x ∈ L1 ↔ x ∈ L2) → L1 = L2
  | [], [], _, _, _ => rfl
  | [], y :: ys, _, _, h => by
    have := (h y).mpr List.mem_cons_self
    cases this
  | x :: xs, [], _, _, h => by
    have := (h x).mp List.mem_cons_self
    cases this
  | x :: xs, y :: ys, h1, h2, h => by
    rw [List.pairwise_cons] at h1 h2
    have e : x = y := by
      have a := (h x).mp List.mem_cons_self
      have b := (h y).mpr List.mem_cons_self
      rw [List.mem_cons] at a b
      rcases a with a | a
      · exact a
      · rcases b with b | b
        · exact b.symm
        · have := h1.1 _ b
          have := h2.1 _ a
          omega
    subst e
    have t : xs = ys := asc_unique h1.2 h2.2 fun z => by
      have q := h z
      rw [List.mem_cons, List.mem_cons] at q
      constructor
      · intro m
        rcases q.mp (.inr m) with e | e
        · subst e
          have := h1.1 _ m
          omega
        · exact e
      · intro m
        rcases q.mpr (.inr m) with e | e
        · subst e
          have := h2.1 _ m
          omega
        · exact e
    rw [t]
theorem rdl_unique {ns : List Int} {p q r : Int} {L L' : List (List Int)} (a : RdL ns p q r L) (b : RdL ns p q r L') : L = L' := asc_unique a.1 b.1 fun x => by rw [a.2, b.2]
theorem six_same {ns : List Int} {p q r a b c : Int} (g : GoodB ns) (ip : InT ns p) (iq : InT ns q) (ir : InT ns r) (h : [a, b, c] ∈ six ns p q r) : ∀ x, x ∈ six ns a b c ↔ x ∈ six ns p q r := by
  have e1 := bk_bk g ip
  have e2 := bk_bk g iq
  have e3 := bk_bk g ir
  intro x
  simp only [six, List.mem_cons, List.not_mem_nil, or_false, List.cons.injEq, and_true] at h
  rcases h with ⟨rfl, rfl, rfl⟩ | ⟨rfl, rfl, rfl⟩ | ⟨rfl, rfl, rfl⟩ | ⟨rfl, rfl, rfl⟩ | ⟨rfl, rfl, rfl⟩ | ⟨rfl, rfl, rfl⟩ <;>
    (simp only [six, List.mem_cons, List.not_mem_nil, or_false, e1, e2, e3]
     try (constructor <;> (rintro (h | h | h | h | h | h) <;> simp [h])))
theorem rdl_same {ns : List Int} {p q r a b c : Int} {L : List (List Int)} (g : GoodB ns) (ip : InT ns p) (iq : InT ns q) (ir : InT ns r) (h : [a, b, c] ∈ six ns p q r) (R : RdL ns a b c L) : RdL ns p q r L := ⟨R.1, fun x => by rw [R.2, six_same g ip iq ir h]⟩
theorem rdl_same' {ns : List Int} {p q r a b c : Int} {L : List (List Int)} (g : GoodB ns) (ip : InT ns p) (iq : InT ns q) (ir : InT ns r) (h : [a, b, c] ∈ six ns p q r) (R : RdL ns p q r L) : RdL ns a b c L := ⟨R.1, fun x => by rw [R.2, six_same g ip iq ir h]⟩
theorem len_sub : ∀ {L S : List (List Int)}, L.Nodup → (∀ x ∈ L, x ∈ S) → L.length ≤ S.length
  | [], _, _, _ => Nat.zero_le _
  | x :: xs, S, n, h => by
    rw [List.nodup_cons] at n
    have m := h x List.mem_cons_self
    have := len_sub (L := xs) (S := S.erase x) n.2 fun y hy => by
      have ne : y ≠ x := fun e => n.1 (e ▸ hy)
      exact (List.mem_erase_of_ne ne).mpr (h y (List.mem_cons_of_mem _ hy))
    rw [List.length_erase_of_mem m] at this
    have := List.length_pos_of_mem m
    rw [List.length_cons]
    omega
theorem asc_nodup {f : List Int → Int} {L : List (List Int)} (h : L.Pairwise (fun a b => f a < f b)) : L.Nodup := h.imp fun {a b} q e => by
  subst e
  omega
theorem rdl_len {ns : List Int} {p q r : Int} {L : List (List Int)} (R : RdL ns p q r L) : L.length ≤ 6 := len_sub (S := six ns p q r) (asc_nodup R.1) fun x hx => (R.2 x).mp hx
theorem rdl_pos {ns : List Int} {p q r : Int} {L : List (List Int)} (R : RdL ns p q r L) : ∃ t L', L = t :: L' := by
  cases L with
  | nil =>
    have : [p, q, r] ∈ ([] : List (List Int)) := (R.2 _).mpr (by simp [six])
    cases this
  | cons t L' => exact ⟨t, L', rfl⟩
theorem A3_asc : ∀ n, n ≤ 4 → (A3 n n).Pairwise (fun a b => TS.code 4 a < TS.code 4 b) := by decide +kernel
theorem in_A3 {ns : List Int} {a b c : Int} (ia : InT ns a) (ib : InT ns b) (ic : InT ns c) : [a, b, c] ∈ A3 ns.length ns.length := by
  refine A3_mem.mpr ⟨a.toNat, b.toNat, c.toNat, ?_, ?_, ?_, ?_⟩
  · have := ia.1; have := ia.2; omega
  · have := ib.1; have := ib.2; omega
  · have := ic.1; have := ic.2; omega
  · rw [Int.toNat_of_nonneg ia.1, Int.toNat_of_nonneg ib.1, Int.toNat_of_nonneg ic.1]
/-- the classes that were found among the first i threes -/
structure ClsF (ns : List Int) (i : Nat) (Cs : List (List Int)) : Prop where
  nd : Cs.Nodup
  sub : ∀ c ∈ Cs, c ∈ A3 ns.length ns.length ∧ isL ns c = true
  ex : ∀ (j : Nat) (p q r : Int), j < i → (A3 ns.length ns.length)[j]? = some [p, q, r] → ∃ L, RdL ns p q r L
  all : ∀ (j : Nat) (p q r : Int) (t : List Int) (L : List (List Int)), j < i → (A3 ns.length ns.length)[j]? = some [p, q, r] → RdL ns p q r (t :: L) → t ∈ Cs
theorem ClsF.nil {ns : List Int} : ClsF ns 0 [] := ⟨List.nodup_nil, fun c h => by (cases h), fun j p q r h => by omega, fun j p q r t L h => by omega⟩
theorem least_ok {ns : List Int} {p q r : Int} {t : List Int} {L : List (List Int)} (g : GoodB ns) (ip : InT ns p) (iq : InT ns q) (ir : InT ns r) (R : RdL ns p q r (t :: L)) : t ∈ A3 ns.length ns.length ∧ isL ns t = true := by
  have m := (R.2 t).mp List.mem_cons_self
  obtain ⟨a, b, c, rfl, ia, ib, ic⟩ := six_in g ip iq ir t m
  refine ⟨in_A3 ia ib ic, ?_⟩
  rw [← isL_iff (rdl_same' g ip iq ir m R)]
  exact decide_eq_true rfl
theorem ClsF.step {ns : List Int} {i : Nat} {Cs : List (List Int)} {p q r : Int} {t : List Int} {L : List (List Int)} (h : ClsF ns i Cs) (g : GoodB ns) (e : (A3 ns.length ns.length)[i]? = some [p, q, r]) (ip : InT ns p) (iq : InT ns q) (ir : InT ns r) (R : RdL ns p q r (t :: L)) :
    ClsF ns (i + 1) (if t ∈ Cs then Cs else Cs ++ [t]) := by
  have ok := least_ok g ip iq ir R
  have last : ∀ (p' q' r' : Int) (t' : List Int) (L' : List (List Int)), (A3 ns.length ns.length)[i]? = some [p', q', r'] → RdL ns p' q' r' (t' :: L') → t' = t := fun p' q' r' t' L' e' R' => by
    rw [e] at e'
    have e' := Option.some.inj e'
    injection e' with e1 e'
    injection e' with e2 e'
    injection e' with e3 e'
    subst e1 e2 e3
    have := rdl_unique R' R
    injection this
  have exs : ∀ (j : Nat) (p' q' r' : Int), j < i + 1 → (A3 ns.length ns.length)[j]? = some [p', q', r'] → ∃ L, RdL ns p' q' r' L := fun j p' q' r' hj e' => by
    rcases Nat.lt_or_ge j i with hi | hi
    · exact h.ex j p' q' r' hi e'
    · obtain rfl : j = i := by omega
      rw [e] at e'
      have e' := Option.some.inj e'
      injection e' with e1 e'
      injection e' with e2 e'
      injection e' with e3 e'
      subst e1 e2 e3
      exact ⟨_, R⟩
  by_cases c : t ∈ Cs
  · rw [if_pos c]
    refine ⟨h.nd, h.sub, exs, fun j p' q' r' t' L' hj e' R' => ?_⟩
    rcases Nat.lt_or_ge j i with hi | hi
    · exact h.all j p' q' r' t' L' hi e' R'
    · obtain rfl : j = i := by omega
      rw [last p' q' r' t' L' e' R']
      exact c
  · rw [if_neg c]
    refine ⟨?_, fun x hx => ?_, exs, fun j p' q' r' t' L' hj e' R' => ?_⟩
    · rw [List.nodup_append]
      exact ⟨h.nd, by simp, fun a ha b hb => by rw [List.mem_singleton] at hb; subst hb; exact fun e => c (e ▸ ha)⟩
    · rw [List.mem_append, List.mem_singleton] at hx
      rcases hx with hx | rfl
      · exact h.sub x hx
      · exact ok
    · rw [List.mem_append, List.mem_singleton]
      rcases Nat.lt_or_ge j i with hi | hi
      · exact .inl (h.all j p' q' r' t' L' hi e' R')
      · obtain rfl : j = i := by omega
        exact .inr (last p' q' r' t' L' e' R')
theorem A3_len3 : ∀ n, n ≤ 3 → (A3 n n).length ≤ 27 := by decide +kernel
theorem not_isL {ns : List Int} (g : GoodB ns) (h4 : ns.length = 4) : isL ns [3, 0, 0] = false := by
  have i0 : InT ns 0 := ⟨by omega, by omega⟩
  have b0 := bk_in g i0
  show ((six ns 3 0 0).all fun x => decide (TS.code 4 [3, 0, 0] ≤ TS.code 4 x)) = false
  rw [List.all_eq_false]
  refine ⟨[0, bk ns 0, 3], by simp [six], fun z => ?_⟩
  have z := of_decide_eq_true z
  have := b0.1
  have := b0.2
  simp only [TS.code] at z
  simp at z
  omega
theorem ClsF.len {ns : List Int} {i : Nat} {Cs : List (List Int)} (h : ClsF ns i Cs) (g : GoodB ns) : Cs.length < 64 := by
  rcases Nat.lt_or_ge ns.length 4 with n3 | n4
  · have := len_sub h.nd fun x hx => (h.sub x hx).1
    have := A3_len3 ns.length (by omega)
    omega
  · have h4 : ns.length = 4 := by have := g.hi; omega
    have i0 : InT ns 0 := ⟨by omega, by omega⟩
    have i3 : InT ns 3 := ⟨by omega, by omega⟩
    have m := in_A3 i3 i0 i0
    have := len_sub (S := (A3 ns.length ns.length).erase [3, 0, 0]) h.nd fun x hx => by
      have ne : x ≠ [3, 0, 0] := fun e => by
        have := (h.sub x hx).2
        rw [e, not_isL g h4] at this
        cases this
      exact (List.mem_erase_of_ne ne).mpr (h.sub x hx).1
    rw [List.length_erase_of_mem m] at this
    have := A3_len ns.length g.hi
    have := List.length_pos_of_mem m
    omega
/-- the classes, sorted, are the least readings -/
theorem ClsF.sorted {ns : List Int} {Cs Ds : List (List Int)} (h : ClsF ns (A3 ns.length ns.length).length Cs) (g : GoodB ns) (pm : Ds.Perm Cs) (pw : Ds.Pairwise (fun a b => TS.code 4 a < TS.code 4 b)) : Ds = (A3 ns.length ns.length).filter (isL ns) := by
  refine asc_unique pw ((A3_asc ns.length g.hi).filter _) fun x => ?_
  rw [pm.mem_iff, List.mem_filter]
  refine ⟨fun m => h.sub x m, fun ⟨m, l⟩ => ?_⟩
  obtain ⟨p, q, r, rfl, ip, iq, ir⟩ := A3_in m rfl
  obtain ⟨j, hj⟩ := List.getElem?_of_mem m
  obtain ⟨L, R⟩ := h.ex j p q r (List.getElem?_eq_some_iff.mp hj).1 hj
  obtain ⟨t, L', rfl⟩ := rdl_pos R
  have tm := h.all j p q r t L' (List.getElem?_eq_some_iff.mp hj).1 hj R
  have := isL_iff R
  rw [l] at this
  rw [of_decide_eq_true this]
  exact tm
theorem LstsAt.app {H H' : Hp} {z w u : Addr} {L M : List (List Int)} {xs ys : List V} (hz : LstsAt H z L) (hw : LstsAt H w M) (ex : H z = some (.lst xs)) (ey : H w = some (.lst ys)) (S : Same H H') (e : H' u = some (.lst (xs ++ ys))) : LstsAt H' u (L ++ M) := by
  obtain ⟨ps, a1, a2, a3⟩ := hz
  obtain ⟨qs, b1, b2, b3⟩ := hw
  rw [a1] at ex
  rw [b1] at ey
  obtain rfl : _ = xs := HO.lst.inj (Option.some.inj ex)
  obtain rfl : _ = ys := HO.lst.inj (Option.some.inj ey)
  refine ⟨ps ++ qs, by rw [e, List.map_append], by rw [List.length_append, List.length_append, a2, b2], fun j a ts q1 q2 => ?_⟩
  rcases Nat.lt_or_ge j ps.length with hj | hj
  · rw [List.getElem?_append_left hj] at q1
    rw [List.getElem?_append_left (by omega)] at q2
    exact S _ _ (a3 j a ts q1 q2)
  · rw [List.getElem?_append_right hj] at q1
    rw [List.getElem?_append_right (by omega), ← a2] at q2
    exact S _ _ (b3 _ a ts q1 q2)
theorem Gro.lsts {H1 H : Hp} {D : Addr} {L : List (List Int)} (G : Gro H1 H D L) : LstsAt H D L := by
  obtain ⟨ps, a, b, c⟩ := G.d
  exact ⟨ps, a, b, fun j x ts e1 e2 => (c j x ts e1 e2).2⟩
/-- all but two lists stand -/
def Fr (h cl : Addr) (H H' : Hp) : Prop := ∀ a o, a ≠ h → a ≠ cl → H a = some o → H' a = some o
theorem Fr.but {h cl : Addr} {H H1 H2 : Hp} (f : Fr h cl H H1) (b : But h H1 H2) : Fr h cl H H2 := fun a o n1 n2 e => b a o n1 (f a o n1 n2 e)
theorem Fr.same {h cl : Addr} {H H1 H2 : Hp} (f : Fr h cl H H1) (S : Same H1 H2) : Fr h cl H H2 := fun a o n1 n2 e => S a o (f a o n1 n2 e)
theorem LstsAt.fr {h cl : Addr} {H H' : Hp} {z : Addr} {L : List (List Int)} {us vs : List V} (hz : LstsAt H z L) (eh : H h = some (.lst us)) (ec : H cl = some (.lst vs)) (n1 : z ≠ h) (n2 : z ≠ cl) (f : Fr h cl H H') : LstsAt H' z L := by
  obtain ⟨ps, a1, a2, a3⟩ := hz
  exact ⟨ps, f _ _ n1 n2 a1, a2, fun j a ts e1 e2 => f _ _ (ne_of (a3 j a ts e1 e2) eh (by intro z; cases z)) (ne_of (a3 j a ts e1 e2) ec (by intro z; cases z)) (a3 j a ts e1 e2)⟩
theorem LstsAt.but {h : Addr} {H H' : Hp} {z : Addr} {L : List (List Int)} {us : List V} (hz : LstsAt H z L) (eh : H h = some (.lst us)) (n1 : z ≠ h) (f : But h H H') : LstsAt H' z L := by
  obtain ⟨ps, a1, a2, a3⟩ := hz
  exact ⟨ps, f _ _ n1 a1, a2, fun j a ts e1 e2 => f _ _ (ne_of (a3 j a ts e1 e2) eh (by intro z; cases z)) (a3 j a ts e1 e2)⟩
theorem LstsAt.tup {H : Hp} {z w : Addr} {L : List (List Int)} {xs : List V} (hz : LstsAt H z L) (ex : H z = some (.lst xs)) (hw : H w = none) : TupsAt (upd H w (.tup xs)) w L := by
  obtain ⟨ps, a1, a2, a3⟩ := hz
  rw [a1] at ex
  obtain rfl : _ = xs := HO.lst.inj (Option.some.inj ex)
  exact ⟨ps, upd_same, a2, fun j a ts e1 e2 => new_same hw _ _ (a3 j a ts e1 e2)⟩
theorem LstsAt.data {K : PySem.W.Frag} {H : Hp} {z : Addr} {L : List (List Int)} (h : LstsAt H z L) : Dp K H (.ref z) (.list (tupsD L)) ∧ SeqAt.shaped (.list (tupsD L)) = true := by
  obtain ⟨ps, e1, e2, e3⟩ := h
  exact ⟨.lst (SqL.of e1) (dp_tupsD e2 e3), shaped_tupsD L⟩
theorem TiesAt.fr {C h cl : Addr} {H H' : Hp} {x : Addr} {ns us vs : List _} (T : TiesAt C H x ns) (eh : H h = some (.lst us)) (ec : H cl = some (.lst vs)) (f : Fr h cl H H') : TiesAt C H' x ns := by
  obtain ⟨dx, t, e1, e2⟩ := T
  exact ⟨dx, t, f _ _ (ne_of e1 eh (by intro z; cases z)) (ne_of e1 ec (by intro z; cases z)) e1, f _ _ (ne_of e2 eh (by intro z; cases z)) (ne_of e2 ec (by intro z; cases z)) e2⟩
theorem TiesAt.but {C h : Addr} {H H' : Hp} {x : Addr} {ns us : List _} (T : TiesAt C H x ns) (eh : H h = some (.lst us)) (f : But h H H') : TiesAt C H' x ns := by
  obtain ⟨dx, t, e1, e2⟩ := T
  exact ⟨dx, t, f _ _ (ne_of e1 eh (by intro z; cases z)) e1, f _ _ (ne_of e2 eh (by intro z; cases z)) e2⟩
/-- sorted(classes) -/
theorem sort_pre {K : PySem.W.Frag} {H : Hp} {cl : Addr} {ns : List Int} {Cs : List (List Int)} (hc : LstsAt H cl Cs) (h : ClsF ns (A3 ns.length ns.length).length Cs) (g : GoodB ns) :
    ∃ xs, H cl = some (.lst xs) ∧ xs.length < 64 ∧ (∀ x ∈ xs, ∃ ms, TupI K H x ms ∧ ms.length = 3 ∧ TS.Bd 4 ms) ∧
      ∀ (ys : List V) (z : Addr), ys.Perm xs → ys.Pairwise (fun x y => ∀ n m, TupI K H x n → TupI K H y m → TS.code 4 n ≤ TS.code 4 m) → H z = none → LstsAt (upd H z (.lst ys)) z ((A3 ns.length ns.length).filter (isL ns)) := by
  obtain ⟨ps, e1, e2, e3⟩ := hc
  have la := h.len g
  have BD : ∀ x ∈ Cs, x.length = 3 ∧ TS.Bd 4 x := fun x hx => by
    obtain ⟨p, q, r, rfl, ip, iq, ir⟩ := A3_in (h.sub x hx).1 rfl
    exact six_bd g ip iq ir _ (by simp [six])
  have inL : ∀ (j : Nat) (a : Addr), ps[j]? = some a → ∃ ts, Cs[j]? = some ts ∧ H a = some (.tup (ts.map V.int)) := fun j a ej => by
    have hj := (List.getElem?_eq_some_iff.mp ej).1
    have q := List.getElem?_eq_getElem (l := Cs) (i := j) (by omega)
    exact ⟨_, q, e3 j a _ ej q⟩
  refine ⟨_, e1, by rw [List.length_map, e2]; exact la, fun x hx => ?_, fun ys z pm pw hz => ?_⟩
  · obtain ⟨a, ha, rfl⟩ := List.mem_map.mp hx
    obtain ⟨j, hj⟩ := List.getElem?_of_mem ha
    obtain ⟨ts, q1, q2⟩ := inL j a hj
    obtain ⟨b1, b2⟩ := BD ts (List.mem_of_getElem? q1)
    exact ⟨ts, ⟨a, rfl, SqT.of q2⟩, b1, b2⟩
  · have zm : (ps.zip Cs).map (fun w => V.ref w.1) = ps.map V.ref := by
      rw [show (fun w : Addr × List Int => V.ref w.1) = V.ref ∘ Prod.fst from rfl, ← List.map_map, List.map_fst_zip (by omega)]
    rw [← zm] at pm
    obtain ⟨zs, pz, rfl⟩ := perm_map_inv pm rfl
    have zc : ∀ w ∈ zs, w.2 ∈ Cs ∧ H w.1 = some (.tup (w.2.map V.int)) := fun w hw => by
      have hw2 := pz.mem_iff.mp hw
      obtain ⟨j, hj⟩ := List.getElem?_of_mem hw2
      rw [List.getElem?_zip_eq_some] at hj
      obtain ⟨h1, h2⟩ := hj
      exact ⟨List.mem_of_getElem? h2, e3 j _ _ h1 h2⟩
    have p2 : (zs.map Prod.snd).Perm Cs := by
      have := pz.map Prod.snd
      rwa [List.map_snd_zip (by omega)] at this
    have T' : Same H (upd H z (.lst (zs.map fun w => V.ref w.1))) := new_same hz
    have asc : (zs.map Prod.snd).Pairwise (fun a b => TS.code 4 a < TS.code 4 b) := by
      have nd2 : (zs.map Prod.snd).Nodup := p2.nodup_iff.mpr h.nd
      rw [List.pairwise_map]
      have nd' : zs.Pairwise fun a b => a.2 ≠ b.2 := by
        have : (zs.map Prod.snd).Pairwise (· ≠ ·) := nd2
        rwa [List.pairwise_map] at this
      rw [List.pairwise_map] at pw
      refine (pw.and nd').imp_of_mem fun {a b} ma mb hh => ?_
      obtain ⟨h1, h2⟩ := hh
      obtain ⟨a1, a2⟩ := zc a ma
      obtain ⟨b1, b2⟩ := zc b mb
      have h1 := h1 a.2 b.2 ⟨a.1, rfl, SqT.of a2⟩ ⟨b.1, rfl, SqT.of b2⟩
      rcases Int.lt_or_eq_of_le h1 with h3 | h3
      · exact h3
      · obtain ⟨l1, c1⟩ := BD _ a1
        obtain ⟨l2, c2⟩ := BD _ b1
        exact absurd (code_inj (by omega) c1 c2 h3) h2
    rw [← h.sorted g p2 asc]
    refine ⟨zs.map Prod.fst, by rw [upd_same, List.map_map]; rfl, by rw [List.length_map, List.length_map], fun j a ts q1 q2 => ?_⟩
    rw [List.getElem?_map] at q1 q2
    cases ej : zs[j]? with
    | none => rw [ej] at q1; cases q1
    | some w =>
      rw [ej] at q1 q2
      obtain rfl := Option.some.inj q1
      obtain rfl := Option.some.inj q2
      exact T' _ _ (zc w (List.mem_of_getElem? ej)).2
theorem made_same {H : Hp} {x dx : Addr} {o u : HO} (hx : H x = none) (hd : H dx = none) : Same H (upd (upd H dx o) x u) := fun b v e => by
  rw [upd_ne (ne_of_none e hx), upd_ne (ne_of_none e hd)]
  exact e
theorem made_but {H H' : Hp} {x dx : Addr} {o u : HO} (hx : H x = none) (hd : H dx = none) (B : ∀ b v, b ≠ x → (upd (upd H dx o) x u) b = some v → H' b = some v) : Same H H' := fun b v e => B b v (ne_of_none e hx) (made_same hx hd b v e)
theorem map_int_inj : ∀ {xs ys : List Int}, xs.map V.int = ys.map V.int → xs = ys
  | [], [], _ => rfl
  | [], _ :: _, h => by cases h
  | _ :: _, [], h => by cases h
  | x :: xs, y :: ys, h => by
    rw [List.map_cons, List.map_cons] at h
    injection h with h1 h2
    injection h1 with h1
    rw [h1, map_int_inj h2]
theorem mk_ties {C CB : Addr} {H : Hp} {E : XK} {R : Addr → VK} {ns : List Int} {v : V} {s : Sh} (hs : Is H v s) (g : GoodB ns) (hq : (s.isL || s.isT) = true) (hi : items s = ns.map V.int) (k : ∀ (H' : Hp) (x : Addr), Same H H' → H x = none → TiesAt C H' x ns → R x .non H') :
    ∀ x dx, H x = none → H dx = none → dx ≠ x → spTies C CB [.ref x, v] (upd (upd H dx (.own x)) x (.ins C dx [])) (R x) E := by
  intro x dx hx hd _
  have S := made_same (H := H) (o := .own x) (u := .ins C dx []) hx hd
  have dn : due s = none := by
    cases s with
    | sc u => cases hq
    | dk => cases hq
    | lst xs => have e : xs = ns.map V.int := hi; subst e; exact due_of g
    | tup xs => have e : xs = ns.map V.int := hi; subst e; exact due_of g
  refine ⟨x, dx, v, s, rfl, upd_same, hs.keep S, fun y hy => ?_, fun w e => ?_, fun ms _ e H' B T => ?_⟩
  · rw [hi] at hy
    obtain ⟨n, _, rfl⟩ := List.mem_map.mp hy
    exact ⟨.sc (.int n), rfl, rfl⟩
  · rw [dn] at e
    cases e
  · obtain rfl := map_int_inj (hi.symm.trans e)
    exact k H' x (made_but hx hd B) hx T
theorem But.free {h l : Addr} {H H' : Hp} (B : But h H H') (n : l ≠ h) (e : H' l = none) : H l = none := by
  cases q : H l with
  | none => rfl
  | some o =>
    have := B _ _ n q
    rw [e] at this
    cases this
theorem A_len2 : ∀ n, n ≤ 4 → ∀ i, i < n → ∀ j, j < n → (A3 n i ++ A2 n i j).length + (A1 i j n).length ≤ 64 := by decide +kernel
theorem LstsAt.push {H : Hp} {z d : Addr} {L : List (List Int)} {t : List Int} {ps : List Addr} (h : LstsAt H z L) (e : H z = some (.lst (ps.map V.ref))) (ed : H d = some (.tup (t.map V.int))) : LstsAt (upd H z (.lst (ps.map V.ref ++ [.ref d]))) z (L ++ [t]) := by
  obtain ⟨qs, e1, e2, e3⟩ := h
  rw [e1] at e
  have w : qs.map V.ref = ps.map V.ref := HO.lst.inj (Option.some.inj e)
  rw [← w]
  have nz : d ≠ z := ne_of ed e1 (by intro z; cases z)
  refine ⟨qs ++ [d], by rw [upd_same, List.map_append]; rfl, by rw [List.length_append, List.length_append, e2]; rfl, fun j a us q1 q2 => ?_⟩
  rcases Nat.lt_or_ge j qs.length with hj | hj
  · rw [List.getElem?_append_left hj] at q1
    rw [List.getElem?_append_left (by omega)] at q2
    have := e3 j a us q1 q2
    rw [upd_ne (ne_of this e1 (by intro z; cases z))]
    exact this
  · have hj2 : j = qs.length := by
      have := (List.getElem?_eq_some_iff.mp q1).1
      rw [List.length_append] at this
      have l : [d].length = 1 := rfl
      omega
    subst hj2
    rw [List.getElem?_append_right (Nat.le_refl _), Nat.sub_self] at q1
    rw [e2, List.getElem?_append_right (Nat.le_refl _), Nat.sub_self] at q2
    obtain rfl : d = a := Option.some.inj q1
    obtain rfl : t = us := Option.some.inj q2
    rw [upd_ne nz]
    exact ed
theorem map_ref_inj : ∀ {xs ys : List Addr}, xs.map V.ref = ys.map V.ref → xs = ys
  | [], [], _ => rfl
  | [], _ :: _, h => by cases h
  | _ :: _, [], h => by cases h
  | x :: xs, y :: ys, h => by
    rw [List.map_cons, List.map_cons] at h
    injection h with h1 h2
    injection h1 with h1
    rw [h1, map_ref_inj h2]
theorem ints3 {s : Sh} {p q r p' q' r' : Int} (e : items s = ([p, q, r] : List Int).map V.int) (e' : items s = [.int p', .int q', .int r']) : p' = p ∧ q' = q ∧ r' = r := by
  rw [e] at e'
  injection e' with e1 e'
  injection e' with e2 e'
  injection e' with e3 e'
  injection e1 with e1
  injection e2 with e2
  injection e3 with e3
  exact ⟨e1.symm, e2.symm, e3.symm⟩
theorem is_seq {K : PySem.W.Frag} {H : Hp} {z : Addr} {s : Sh} {ys : List V} (h : Is H (.ref z) s) (e : items s = ys) (sq : (s.isL || s.isT) = true) : SqL K H z ys ∨ SqT K H z ys := by
  cases s with
  | sc u => cases sq
  | dk => cases sq
  | lst xs =>
    obtain ⟨p, e1, e2⟩ := h
    obtain rfl : z = p := V.ref.inj e1
    obtain rfl : xs = ys := e
    exact .inl (SqL.of e2)
  | tup xs =>
    obtain ⟨p, e1, e2⟩ := h
    obtain rfl : z = p := V.ref.inj e1
    obtain rfl : xs = ys := e
    exact .inr (SqT.of e2)
theorem three_yes {ns : List Int} {s : Sh} {p q r : Int} (e : items s = ([p, q, r] : List Int).map V.int) (sq : (s.isL || s.isT) = true) (ip : InT ns p) (iq : InT ns q) (ir : InT ns r) : threeB ns s = true := by
  have t : ([V.int p, .int q, .int r] : List V).all (tieB ns) = true := by
    simp only [List.all_cons, List.all_nil, tie_in ip, tie_in iq, tie_in ir, Bool.and_self]
  cases s with
  | sc u => cases sq
  | dk => cases sq
  | lst xs =>
    obtain rfl : xs = _ := e
    show (decide (([V.int p, .int q, .int r] : List V).length = 3) && ([V.int p, .int q, .int r] : List V).all (tieB ns)) = true
    rw [t]
    rfl
  | tup xs =>
    obtain rfl : xs = _ := e
    show (decide (([V.int p, .int q, .int r] : List V).length = 3) && ([V.int p, .int q, .int r] : List V).all (tieB ns)) = true
    rw [t]
    rfl
theorem known_ints {H : Hp} {s : Sh} {ts : List Int} (e : items s = ts.map V.int) : Known H (items s) := by
  rw [e]
  exact ints_known ts
theorem Hand.same_h' {H : Hp} {h q z : Addr} (x : Hand H h q) (hz : H z = none) : z ≠ h ∧ z ≠ q := ⟨fun e => (x.h_ne hz).1 e.symm, fun e => (x.h_ne hz).2 e.symm⟩
end J

set_option Elab.async false
set_option linter.all false
set_option maxRecDepth 100000
set_option maxHeartbeats 4000000
/-! sorted(d), d a dict whose keys are tuples of ints, at any length -/
namespace SD
open PySem PyProof.Rows PySem.W
open Classical in
noncomputable def keyIn (h : Heap) (d : Nat) (B : Int) (v : Value) : Option Int := if ∃ ns, TS.TupInts h v ns ∧ ns.length = d ∧ TS.Bd B ns then some (TS.code B (TS.intsOf h v)) else none
theorem keyIn_some {h : Heap} {d : Nat} {B : Int} {v : Value} {c : Int} (e : keyIn h d B v = some c) : ∃ ns, TS.TupInts h v ns ∧ ns.length = d ∧ TS.Bd B ns ∧ c = TS.code B ns := by
  unfold keyIn at e
  split at e
  · rename_i q
    obtain ⟨ns, t, l, b⟩ := q
    exact ⟨ns, t, l, b, by rw [← Option.some.inj e, t.ints]⟩
  · cases e
theorem keyIn_of {h : Heap} {d : Nat} {B : Int} {v : Value} {ns : List Int} (t : TS.TupInts h v ns) (l : ns.length = d) (b : TS.Bd B ns) : keyIn h d B v = some (TS.code B ns) := by
  unfold keyIn
  rw [if_pos ⟨ns, t, l, b⟩, t.ints]
@[reducible] noncomputable def knd (h : Heap) (d : Nat) (B : Int) : PyProof.Rows.KeyKind where
  α := Int
  blt a b := decide (a < b)
  irrefl a := decide_eq_false (Int.lt_irrefl a)
  trans a b c h1 h2 := decide_eq_true (Int.lt_trans (of_decide_eq_true h1) (of_decide_eq_true h2))
  negTrans a b c h1 := by
    have z := of_decide_eq_true h1
    rcases Int.lt_or_le a b with x | x
    · exact .inl (decide_eq_true x)
    · exact .inr (decide_eq_true (by omega))
  total a b h1 h2 := by
    have z1 := of_decide_eq_false h1
    have z2 := of_decide_eq_false h2
    omega
  keyOf := keyIn h d B
  dflt := 0
section
variable {prog : Program} {w : World} {A : Around} {E : Value → Shared → Prop} {s : Shared}
theorem lt_at {h : Heap} {d : Nat} {B : Int} (bo : Bool) (k : G.KeepsTups h s.heap) : G.LtAt prog w s (knd h d B) (tuples' bo) := by
  intro A E x y p q Q hx hy hq
  obtain ⟨ns, tp, lp, bp, rfl⟩ := keyIn_some hx
  obtain ⟨ms, tq, lq, bq, rfl⟩ := keyIn_some hy
  obtain ⟨a, xs, rfl, ⟨o, ho, hc, n, hdt⟩, i⟩ := tp
  obtain ⟨a', ys, rfl, ⟨o', ho', hc', n', hdt'⟩, i'⟩ := tq
  refine PySem.W.kat_lt (k _ _ ho hc) hdt (k _ _ ho' hc') hdt' ?_
  have sz : decide (xs.size < ys.size) = false := by
    have l1 := i.length
    have l2 := i'.length
    rw [Array.length_toList] at l1 l2
    exact decide_eq_false (by omega)
  rw [sz]
  exact TS.lex_ints 0 i i' (by omega) bp bq hq
theorem kind_at {M : Model} {d : Nat} {B : Int} {vs : List Value} {Q : SortKind → Shared → Prop} (hd : 1 ≤ d) (h2 : 2 ≤ vs.length) (x : TS.TupsOk s.heap d B vs) (h : Q (tuples' true) s) : wpAny M A (keyKind' vs.toArray) Q E s := by
  obtain ⟨fs, k, hl, hi⟩ := TS.firsts_of hd vs x
  have e : (Value.type "int" != Value.type "tuple") = true := by first | rfl | decide
  refine PySem.W.kat_kind (T := Value.type "int") k (by omega) (fun f hf => ?_) rfl (by rw [e]; exact h)
  obtain ⟨n, t, rfl⟩ := hi f hf
  exact PySem.W.Looks.of_pure rfl
theorem collectK {T : String} {r d : Addr} {n : Nat} {P : Nat → Value → Prop} {OK : Heap → Prop} {R : List Value → Shared → Prop} (K : PySem.W.KdlSrc prog w T r d n P OK) (hh : A.handled = none) (hok : OK s.heap) (hn : n ≤ sizeLine)
    (h : ∀ (h' : Heap) (tk : Nat) (vs : List Value), (∀ b o, s.heap.get? b = some o → h'.get? b = some o) → s.heap.objs.size < h'.objs.size → vs.length = n → (∀ j v, vs[j]? = some v → P j v) → R vs { s with heap := h', toks := tk }) :
    wpAny (model prog w) A (collect (.ref r)) R E s := by
  obtain ⟨hr, hd⟩ := K.there _ hok
  unfold collect
  refine wpAny_bind (wpAny_runValue (codeAny_builtin entry_proto_collect' ?_))
  rw [Around.under_plainId PySem.F.plain_proto_collect _]
  show wpAny _ A.in1 (newList [] >>= fun l => again (.builtin "list.__iadd__" ⟨[l, .ref r], []⟩)) _ _ s
  refine wpAny_bind (wpAny_newObj_type ?_)
  refine wpAny_pure ⟨plainId_quiet PySem.F.plain_list_iadd _, codeAny_builtin entry_list_iadd' ?_⟩
  rw [Around.under_plainId PySem.F.plain_list_iadd _]
  have hS₁ : (s.heap.push { cls := .type "list", data := .seq ([] : List Value).toArray }).get? s.heap.objs.size = some { cls := .type "list", data := .seq #[] } := Heap.get?_push_size _ rfl
  show wpAny _ A.in1 (Builtin.List.listExtendWith (.ref s.heap.objs.size) (.ref r) (.ref s.heap.objs.size)) _ _ _
  have key := PySem.W.kdl_extend (prog := prog) (w := w) (A := A) (s := { s with heap := s.heap.push { cls := .type "list", data := .seq ([] : List Value).toArray } })
    (R := fun (q : Result) (s' : Shared) => ∃ (h' : Heap) (tk : Nat) (acc' : Array Value) (c' : Nat), q = .ok (.ret (.ref s.heap.objs.size)) ∧ s' = { s with heap := h', toks := tk } ∧
      (∀ b o, s.heap.get? b = some o → h'.get? b = some o) ∧ h'.get? s.heap.objs.size = some { cls := .type "list", dict := none, data := .seq acc' c', slots := #[] } ∧ acc'.toList.length = n ∧ ∀ j v, acc'.toList[j]? = some v → P j v)
    K hh (K.keep _ _ hok fun b _ o e => Heap.get?_push_of_some _ e) s.heap.objs.size (Nat.ne_of_gt hr) (Nat.ne_of_gt hd) (.ref s.heap.objs.size) 0 hS₁
    (fun h' tk acc' c' hk hS' hacc => ⟨h', tk, acc', c', rfl, rfl, fun b o e => hk b o (Nat.ne_of_lt (Heap.lt_size e)) (Heap.get?_push_of_some _ e), hS', by rw [Array.length_toList]; exact hacc.1, fun j v e => hacc.2 j v (by rw [← Array.getElem?_toList]; exact e)⟩) hn
  refine wpAny_mono key (fun fin s' x => ?_) fun e s' x => ?_
  · cases fin with
    | done f =>
      obtain ⟨h', tk, acc', c', e, rfl, hk, hS', hl, hP⟩ := x
      cases e
      show wpAny _ A (load s.heap.objs.size >>= _) _ _ _
      refine wpAny_bind (wpAny_load hS' ?_)
      refine wpAny_pure ?_
      exact h h' tk acc'.toList hk (Heap.lt_size hS') hl hP
    | again c₁ =>
      refine ⟨x.1, codeAny_mono x.2 fun q s₂ y => ?_⟩
      obtain ⟨h', tk, acc', c', rfl, rfl, hk, hS', hl, hP⟩ := y
      show wpAny _ A (load s.heap.objs.size >>= _) _ _ _
      refine wpAny_bind (wpAny_load hS' ?_)
      refine wpAny_pure ?_
      exact h h' tk acc'.toList hk (Heap.lt_size hS') hl hP
  · obtain ⟨h', tk, acc', c', e, _⟩ := x
    cases e
/-- what the sort leaves, said of the values -/
theorem out_code {h : Heap} {d : Nat} {B : Int} {vs : List Value} {arr : Array Keyed} (hp : arr.Perm (pairsOf vs)) (x : TS.TupsOk h d B vs) (hs : SortedToK (knd h d B) arr (pairsOf vs).size) :
    (arr.map (·.2)).toList.Perm vs ∧ (arr.map (·.2)).toList.Pairwise (fun u v => TS.code B (TS.intsOf h u) ≤ TS.code B (TS.intsOf h v)) := by
  have pl : arr.toList.Perm (vs.zip vs) := by
    have z := hp.toList
    rw [pairsOf_toList] at z
    exact z
  have m : ∀ p ∈ arr.toList, p.1 = p.2 ∧ p.1 ∈ vs := fun p hp' => mem_zip_self (pl.mem_iff.mp hp')
  refine ⟨?_, ?_⟩
  · rw [Array.toList_map]
    have z := pl.map Prod.snd
    rw [List.map_snd_zip (Nat.le_refl _)] at z
    exact z
  · rw [Array.toList_map, List.pairwise_map, List.pairwise_iff_getElem]
    intro i j hi hj hij
    have sz : arr.size = (pairsOf vs).size := hp.size_eq
    rw [Array.length_toList] at hi hj
    have k := hs i j (Nat.le_of_lt hij) (by rw [← sz]; exact hj)
    have at_ : ∀ (n : Nat) (hn : n < arr.size), KK (knd h d B) arr n = TS.code B (TS.intsOf h arr[n].2) := by
      intro n hn
      obtain ⟨e1, e2⟩ := m arr[n] (Array.mem_toList_iff.mpr (Array.getElem_mem hn))
      obtain ⟨ns, t, l, b⟩ := x _ e2
      unfold KK
      rw [Array.getElem?_eq_getElem hn]
      show (keyIn h d B arr[n].1).getD 0 = _
      rw [keyIn_of t l b, ← e1, t.ints]
      rfl
    rw [at_ i hi, at_ j hj] at k
    have k' : decide (TS.code B (TS.intsOf h arr[j].2) < TS.code B (TS.intsOf h arr[i].2)) = false := k
    have := of_decide_eq_false k'
    rw [Array.getElem_toList, Array.getElem_toList]
    omega
theorem sortedK {T : String} {r dd : Addr} {n : Nat} {P : Nat → Value → Prop} {OK : Heap → Prop} {Q : Value → Shared → Prop} (K : PySem.W.KdlSrc prog w T r dd n P OK) (hh : A.handled = none) (hok : OK s.heap) (hn : n ≤ sizeLine) {d : Nat} {B : Int} (hd1 : 1 ≤ d)
    (hP : ∀ vs : List Value, vs.length = n → (∀ j v, vs[j]? = some v → P j v) → TS.TupsOk s.heap d B vs)
    (hQ : ∀ (h' : Heap) (tk : Nat) (p : Addr) (out : Array Value) (c : Nat) (vs : List Value), (∀ b o, s.heap.get? b = some o → h'.get? b = some o) → s.heap.objs.size ≤ p → h'.get? p = some (seqObj "list" out c) → vs.length = n → (∀ j v, vs[j]? = some v → P j v) →
      out.toList.Perm vs → out.toList.Pairwise (fun u v => TS.code B (TS.intsOf s.heap u) ≤ TS.code B (TS.intsOf s.heap v)) → Q (.ref p) { s with heap := h', toks := tk }) :
    wpAny (model prog w) A (call (.builtin "sorted") [.ref r]) Q E s := by
  refine Calls.call_function_entry kind_sorted plain_sorted entry_sorted (args_sorted1 _) ?_
  unfold Builtin.«sorted»
  refine wpAny_bind (m := checkCount "sorted" 1 1 _) (wpAny_pure ?_)
  refine wpAny_bind (collectK (A := A.in1) K hh hok hn fun h' tk vs hk hlt hl hPv => ?_)
  have X := hP vs hl hPv
  refine wpAny_bind (wpAny_newList ?_ (by rw [hl]; exact hn))
  have hoL : (h'.push (seqObj "list" vs.toArray 0)).get? h'.objs.size = some (seqObj "list" vs.toArray 0) := Heap.get?_push_size _ rfl
  have kb : G.KeepsTups s.heap (h'.push (seqObj "list" vs.toArray 0)) := fun b o e _ => Heap.get?_push_of_some _ (hk b o e)
  have k6 : G.KeepsTups s.heap (G.sortHeap6 (h'.push (seqObj "list" vs.toArray 0)) h'.objs.size vs) := kb.trans (G.keeps_sort6 hoL)
  refine wpAny_bind (wpAny_holding (wpAny_call_entry slot_list_sort ⟨_, hoL, rfl⟩ entry_list_sort
    (G.list_sort_treeG (s := { s with heap := h'.push (seqObj "list" vs.toArray 0), toks := tk }) (κ := knd s.heap d B) (kd := tuples' true) hoL (fun p hp => ?_) (lt_at true k6) (fun h2 Q' hq => kind_at hd1 h2 (X.keeps k6) hq) (by rw [hl]; exact hn)
      fun st' a1 a2 a3 => ⟨_, rfl, ?_⟩) (args_list_sort _)))
  · rw [pairsOf_toList] at hp
    obtain ⟨e, hm⟩ := mem_zip_self hp
    obtain ⟨ns, t, l, b⟩ := X _ hm
    exact ⟨_, keyIn_of t l b⟩
  · obtain ⟨o1, o2⟩ := out_code a1 X a2
    obtain ⟨c, hc⟩ := sortedHeap_at (vs := vs) (out := (arrOf st').map (·.2)) hoL
    refine wpAny_pure ⟨_, rfl, hQ _ tk h'.objs.size _ c vs (fun b u e => ?_) (Nat.le_of_lt hlt) hc hl hPv o1 o2⟩
    have q := hk b u e
    have hlt2 := Heap.lt_size q
    rw [sortedHeap_old (Nat.ne_of_lt hlt2) (by rw [size_push']; exact Nat.lt_succ_of_lt hlt2)]
    exact Heap.get?_push_of_some _ q
end
end SD
namespace L2
open PySem PySem.Spec PyProof.Rows
/-- sorted(d), d a dict with tuples of dd ints in [0, B) as keys -/
def rSortD (dd : Nat) (B : Int) : List V → Hp → VK → Prop := fun vs H Q => ∃ (a : Addr) (kvs : List (List Key × V)) (ks : List (List Int)), vs = [V.ref a] ∧ H a = some (.dT kvs) ∧ kvs.map (·.1) = ks.map (fun k => k.map Sum.inl) ∧ (∀ k ∈ ks, k.length = dd ∧ TS.Bd B k) ∧
  ∀ (L : List (Addr × List Int)) (p : Addr), (L.map (·.2)).Perm ks → (L.map (·.2)).Nodup → L.Pairwise (fun q r => TS.code B q.2 ≤ TS.code B r.2) → (∀ q ∈ L, H q.1 = some (.tup (q.2.map V.int))) → H p = none → Q (.ref p) (upd H p (.lst (L.map fun q => V.ref q.1)))
theorem kVl_ints (k : List Int) : ((k.map Sum.inl : List Key)).map kV = k.map V.int := by
  rw [List.map_map]
  rfl
theorem inl_inj : ∀ {a b : List Int}, (a.map Sum.inl : List Key) = b.map Sum.inl → a = b
  | [], [], _ => rfl
  | [], _ :: _, e => by cases e
  | _ :: _, [], e => by cases e
  | x :: a, y :: b, e => by
    rw [List.map_cons, List.map_cons] at e
    injection e with e1 e2
    injection e1 with e1
    rw [e1, inl_inj e2]
section
variable {X : Cx}
theorem cr_sortedD (hc : X.calm = true) {dd : Nat} {B : Int} (hd : 1 ≤ dd) : CallR X (.builtin "sorted") (rSortD dd B) := by
  intro pins s σ H vs us Q I r h
  obtain ⟨a, kvs, ks, rfl, ha, ek, hB, q⟩ := h
  rw [Vals.ref1 r]
  obtain ⟨z, lo, xs, pr, o, es, ep, ho, hx, hdt, he, hn⟩ := (show ObjOk X.prog X.w H s.heap a (.dT kvs) from I.hok a _ ha)
  have l1 : es.size = xs.length := size_of_entries he
  have l2 : kvs.length = xs.length := Paired.length pr
  have l3 : ks.length = xs.length := by
    have := congrArg List.length ek
    rw [List.length_map, List.length_map] at this
    omega
  -- each key: its tuple
  have at_ : ∀ (j : Nat) (x : List Key × Addr × Value), xs[j]? = some x → ∃ k, ks[j]? = some k ∧ x.1 = k.map Sum.inl ∧ H x.2.1 = some (.tup (k.map V.int)) := by
    intro j x hj
    obtain ⟨p, hp, r1, r2, r3⟩ := DX.pget pr hj
    have e1 : (kvs.map (·.1))[j]? = some p.1 := by rw [List.getElem?_map, hp]; rfl
    rw [ek, List.getElem?_map] at e1
    cases hk : ks[j]? with
    | none =>
      rw [hk] at e1
      exact nomatch (show (none : Option (List Key)) = some p.1 from e1)
    | some k =>
      rw [hk] at e1
      have e2 : k.map Sum.inl = p.1 := Option.some.inj e1
      refine ⟨k, rfl, by rw [← r1, e2], ?_⟩
      rw [r2, ← e2, kVl_ints]
  have key_at : ∀ (j : Nat) (v : Value), (∃ en : DictEntry, es[j]? = some en ∧ v = en.key) → ∃ x, xs[j]? = some x ∧ v = Value.ref x.2.1 := by
    rintro j v ⟨en, hen, rfl⟩
    have qe := entry_at he j
    rw [hen] at qe
    cases hb : xs[j]? with
    | none =>
      rw [hb] at qe
      exact nomatch (show some en = none from qe)
    | some b =>
      rw [hb] at qe
      have e2 : en = entryOfKey (tupleKind (mixKind X.prog X.w)) b := Option.some.inj qe
      exact ⟨b, rfl, by rw [e2]; rfl⟩
  have tup : ∀ (j : Nat) (x : List Key × Addr × Value) (k : List Int), xs[j]? = some x → ks[j]? = some k → TS.TupInts s.heap (.ref x.2.1) k := by
    intro j x k hj hk
    obtain ⟨k', hk', _, ht⟩ := at_ j x hj
    rw [hk] at hk'
    cases hk'
    exact tupInts_of (P := X.prog) (w := X.w) (I.isT (SqT.of ht))
  have okT : ∀ vs : List Value, vs.length = es.size → (∀ (j : Nat) (v : Value), vs[j]? = some v → ∃ en : DictEntry, es[j]? = some en ∧ v = en.key) → TS.TupsOk s.heap dd B vs := by
    intro vs hl hv v hm
    obtain ⟨j, hj⟩ := List.mem_iff_getElem?.mp hm
    obtain ⟨x, hx, rfl⟩ := key_at j v (hv j v hj)
    obtain ⟨k, hk, _⟩ := at_ j x hx
    exact ⟨k, tup j x k hx hk, hB k (List.mem_of_getElem? hk)⟩
  refine SD.sortedK (kdl_raw lo hx hdt) (I.ok.hd hc) ho (by omega) hd okT fun h' tk p out c vs hk hp hg hl hv pm pw => ?_
  -- the keys with their tuples
  have hL : ((xs.map fun x => x.2.1).zip ks).map (fun q => Value.ref q.1) = vs := by
    apply List.ext_getElem?
    intro j
    rw [List.getElem?_map]
    cases hj : vs[j]? with
    | none =>
      have h1 := List.getElem?_eq_none_iff.mp hj
      rw [List.getElem?_eq_none (by rw [List.length_zip, List.length_map]; omega)]
      rfl
    | some v =>
      obtain ⟨x, hx, rfl⟩ := key_at j v (hv j v hj)
      obtain ⟨k, hk, _⟩ := at_ j x hx
      have : ((xs.map fun x => x.2.1).zip ks)[j]? = some (x.2.1, k) := List.getElem?_zip_eq_some.mpr ⟨by rw [List.getElem?_map, hx]; rfl, hk⟩
      rw [this]
      rfl
  obtain ⟨L, pL, eL⟩ := perm_lift (fun q : Addr × List Int => Value.ref q.1) pm ((xs.map fun x => x.2.1).zip ks) hL
  have inL : ∀ y ∈ L, ∃ (j : Nat) (x : List Key × Addr × Value), xs[j]? = some x ∧ ks[j]? = some y.2 ∧ y.1 = x.2.1 := by
    intro y hy
    obtain ⟨j, hj⟩ := List.mem_iff_getElem?.mp (pL.mem_iff.mp hy)
    obtain ⟨h1, h2⟩ := List.getElem?_zip_eq_some.mp hj
    rw [List.getElem?_map] at h1
    cases hx : xs[j]? with
    | none =>
      rw [hx] at h1
      exact nomatch (show (none : Option Addr) = some y.1 from h1)
    | some x =>
      rw [hx] at h1
      exact ⟨j, x, hx, h2, (Option.some.inj h1).symm⟩
  have p2 : (L.map (·.2)).Perm ks := by
    have e := pL.map (·.2)
    have m2 : ((xs.map fun x => x.2.1).zip ks).map (·.2) = ks := List.map_snd_zip (by rw [List.length_map]; omega)
    rw [m2] at e
    exact e
  have nk : ks.Nodup := by
    have e1 : xs.map (·.1) = ks.map (fun k => k.map Sum.inl) := by
      rw [← ek]
      apply List.ext_getElem?
      intro j
      rw [List.getElem?_map, List.getElem?_map]
      cases hj : xs[j]? with
      | none =>
        have h1 := List.getElem?_eq_none_iff.mp hj
        rw [List.getElem?_eq_none (by omega)]
        rfl
      | some x =>
        obtain ⟨p, hp, r1, _⟩ := DX.pget pr hj
        rw [hp]
        show some x.1 = some p.1
        rw [r1]
    rw [e1] at hn
    exact List.Pairwise.of_map _ (fun a b hne e => hne (by rw [e])) hn
  have pwL : L.Pairwise (fun q r => TS.code B q.2 ≤ TS.code B r.2) := by
    rw [← eL, List.pairwise_map] at pw
    refine List.Pairwise.imp_of_mem (fun {y u} hy hu hle => ?_) pw
    obtain ⟨j, x, h1, h2, h3⟩ := inL y hy
    obtain ⟨j', x', h1', h2', h3'⟩ := inL u hu
    have f1 : TS.intsOf s.heap (.ref y.1) = y.2 := by rw [h3]; exact (tup j x _ h1 h2).ints
    have f2 : TS.intsOf s.heap (.ref u.1) = u.2 := by rw [h3']; exact (tup j' x' _ h1' h2').ints
    rw [← f1, ← f2]
    exact hle
  have hn0 : H p = none := I.hok.fresh hp
  have hlen : (L.map fun q => V.ref q.1).length ≤ sizeLine := by
    have := p2.length_eq
    rw [List.length_map] at this ⊢
    omega
  have rv : Vals (L.map fun q => V.ref q.1) out.toList := by
    rw [← eL]
    exact vals_of_refs L
  exact ⟨.ref p, _, I.laid (a := p) (t' := tk) (o := .lst (L.map fun q => V.ref q.1)) hk hp ⟨hlen, out.toList, c, rv, hg⟩, rfl, q L p p2 (p2.nodup_iff.mpr nk) pwL (fun y hy => by
    obtain ⟨j, x, h1, h2, h3⟩ := inL y hy
    obtain ⟨k, hk', _, ht⟩ := at_ j x h1
    rw [h2] at hk'
    cases hk'
    rw [h3]
    exact ht) hn0⟩
end
end L2

set_option Elab.async false
set_option linter.all false
set_option maxRecDepth 100000
set_option maxHeartbeats 2000000
/-! enumerate over a tuple -/
namespace PySem
open Sem (wp)
open AutoSeq1 (wpAny_loadPart')
abbrev enumO (h : Heap) : Obj := { cls := .type "enumerate", data := .fields #[.none, .bool false, .ref h.objs.size, rawInt 0, .none, .none] }
theorem jMeetsEnum {v : Value} {o : Obj} {H0 : Heap → Prop} (B : Begins v o H0) :
    Meets (Builtin.«enumerate.__new__» ⟨[.type "enumerate", v], []⟩) (fun _ R s => H0 s.heap ∧ R (.ok (.ret (.ref (s.heap.push o).objs.size))) { s with heap := (s.heap.push o).push (enumO s.heap) }) := .of_wp fun prog w A R s h => by
  obtain ⟨hp, g, d, tk, os⟩ := s
  obtain ⟨h1, h⟩ := h
  have hsub := sub_enumerate
  have q1 : ∀ {A' : Around} {E : Value → Shared → Prop} {Q : Value → Shared → Prop}, Q (.ref hp.objs.size) ⟨hp.push o, g, d, tk, os⟩ → wpAny (model prog w) A' (pyIter v) Q E ⟨hp, g, d, tk, os⟩ := fun q => B.iter prog w _ _ ⟨hp, g, d, tk, os⟩ _ h1 q
  wp_walk
  refine wpAny_stack_any fun st => wpAny_pure ?_
  split
  · rename_i c _ _ _ _ _
    cases (c == Value.type "enumerate")
    · wp_walk using q1
      exact ⟨_, rfl, h⟩
    · wp_walk using q1
      exact ⟨_, rfl, h⟩
  · wp_walk using q1
    exact ⟨_, rfl, h⟩
theorem jEnumTup {prog : Program} {w : World} {A : Around} {E : Value → Shared → Prop} {s : Shared} {t : Addr} {items : Array Value} {Q : Value → Shared → Prop} (hT : s.heap.IsTuple t items)
    (h : ∀ h', IsEnum h' (s.heap.objs.size + 1) s.heap.objs.size 0 .none → h'.IsTupleIter s.heap.objs.size t 0 → (∀ b o, s.heap.get? b = some o → h'.get? b = some o) → Q (.ref (s.heap.objs.size + 1)) { s with heap := h' }) :
    wpAny (model prog w) A (call (.type "enumerate") [.ref t]) Q E s := by
  refine callType_new F.called_enumerate (by decide) (F.typeCall_enumerate_1 _) (F.newCall_enumerate_1 _) (fun obj => F.args_object_init_2 obj _) F.entry_enumerate_new (jMeetsEnum (begins_tuple t items)) ⟨hT, ?_⟩
  generalize eo : ({ cls := .type "tuple_iterator", data := .fields #[.ref t, .int 0 0] } : Obj) = o
  have hz : (s.heap.push o).objs.size = s.heap.objs.size + 1 := Heap.size_push ..
  show _ ∧ _
  rw [hz]
  have he : IsEnum ((s.heap.push o).push (enumO s.heap)) (s.heap.objs.size + 1) s.heap.objs.size 0 .none := by
    have q := Heap.get?_push_size (s.heap.push o) (o := enumO s.heap) rfl
    rw [hz] at q
    exact q
  refine ⟨⟨_, he, rfl⟩, h _ he ⟨o, Heap.get?_push_of_some _ (Heap.get?_push_size _ (by subst eo; rfl)), by subst eo; rfl, by subst eo; rfl⟩ fun b ob x => Heap.get?_push_of_some _ (Heap.get?_push_of_some _ x)⟩
end PySem
namespace J
open PySem PySem.Spec PyProof.Rows L2
/-- the tuple at a, its items in new pairs with their places -/
def Itet (K : PySem.W.Frag) (a : Addr) : It :=
  ⟨fun i H => ∃ (xs : List V) (x : V), SqT K H a xs ∧ xs[i]? = some x, fun i H v H' => ∃ T x, v = .ref T ∧ H T = none ∧ H' = upd H T (.tup [.int (i : Nat), x]) ∧ ∀ xs, SqT K H a xs → xs[i]? = some x, fun i H => ∃ xs : List V, SqT K H a xs ∧ xs.length = i⟩
theorem tup_apart {h : Heap} {a e it : Addr} {items : Array Value} {old : Value} {i : Nat} {c : Int} (ht : h.IsTuple a items) (he : IsEnum h e it c old) (hi : h.IsTupleIter it a i) : a ≠ it ∧ a ≠ e := by
  obtain ⟨o, ho, hc, _⟩ := ht
  obtain ⟨o2, ho2, hc2, _⟩ := hi
  refine ⟨fun q => ?_, fun q => ?_⟩
  · rw [q, ho2] at ho
    have := Option.some.inj ho
    subst this
    rw [hc2] at hc
    exact absurd hc (by decide)
  · have he' : h.get? e = _ := he
    rw [q, he'] at ho
    have := Option.some.inj ho
    subst this
    have hc2 : Value.type "enumerate" = Value.type "tuple" := hc
    injection hc2 with z
    exact absurd z (by decide)
theorem turn_enumT {P : Program} {w : World} {K : PySem.W.Frag} {elts : List Expr} {kk : Nat} {tpos : Pos} (a e it : Addr) :
    Turn P w K (.Tuple elts kk tpos) (Itet K a) [e, it] e (fun i h => (∃ old, IsEnum h e it ((i : Nat) : Int) old) ∧ h.IsTupleIter it a i ∧ e ≠ it) where
  mem := by simp
  obj := by
    rintro i h ⟨⟨old, he⟩, ⟨o, ho, hc, hd⟩, _⟩ b hb
    have e' : b = e ∨ b = it := by simpa using hb
    rcases e' with rfl | rfl
    · exact ⟨_, he, fun v q => nomatch q⟩
    · exact ⟨o, ho, fun v q => by rw [hd] at q; cases q⟩
  keep := by
    rintro i h h' ⟨⟨old, he⟩, ⟨o, ho, hr⟩, hne⟩ k
    exact ⟨⟨old, k e (by simp) _ he⟩, ⟨o, k it (by simp) _ ho, hr⟩, hne⟩
  item := by
    intro X hP hw hK hc i pins s σ H E I hf st hg
    subst hP hw hK
    obtain ⟨⟨old, he⟩, hit, hne⟩ := st
    obtain ⟨xs, x, hq, hx⟩ := hg
    obtain ⟨its, rv, p, hz⟩ := I.tuple hq
    obtain ⟨u, hu, ru⟩ := rv.get hx
    have ht : s.heap.IsTuple a its.toArray := p
    obtain ⟨n1, n2⟩ := tup_apart ht he hit
    have hel : e < s.heap.objs.size := Heap.lt_size he
    have hil : it < s.heap.objs.size := by
      obtain ⟨_, q, _⟩ := hit
      exact Heap.lt_size q
    have hlt : i < its.toArray.size := by
      have q := (List.getElem?_eq_some_iff.mp hu).1
      simpa using q
    have D := Draws.tuple (prog := X.prog) (w := X.w) (A := X.A.in1) (I.ok.hd hc) it a n1 its.toArray
    have nin : e ∉ [it, a] := by
      simp only [List.mem_cons, List.not_mem_nil, or_false, not_or]
      exact ⟨hne, fun q => n2 q.symm⟩
    refine wpAny_pyNext_enum_itemD D he ⟨hit, ht⟩ hlt hne nin ?_
    intro u2 h' tk hP ho hst hT hsz hk
    obtain rfl : u = u2 := by
      have q : its.toArray[i]? = some u2 := hP
      have q2 : its.toArray[i]? = some u := by simpa using hu
      rw [q2] at q
      exact Option.some.inj q
    refine ⟨_, rfl, wpAny_letOwnedTupleGo_enum (s := { s with heap := h', toks := tk + 1 }) ho ?_⟩
    intro h2 he2 sb
    have hT2 : h2.get? s.heap.objs.size = some { cls := .type "tuple", data := .seq #[.int i tk, u] } := (sb.2 _ (Nat.ne_of_gt hel)).trans hT
    have new : ObjOk X.prog X.w (upd H s.heap.objs.size (.tup [.int (i : Nat), x])) h2 s.heap.objs.size (.tup [.int (i : Nat), x]) :=
      ⟨by show 2 ≤ sizeLine; decide, [.int i tk, u], .cons ⟨_, rfl⟩ (.cons ru .nil), ⟨_, hT2, rfl, _, rfl⟩⟩
    have kept : ∀ (b : Addr) (ob : Obj), b ∉ [e, it] → s.heap.get? b = some ob → h2.get? b = some ob := fun b ob hb q => by
      have b1 : b ≠ e := fun z => hb (by simp [z])
      have b2 : b ≠ it := fun z => hb (by simp [z])
      exact (sb.2 b b1).trans (hk b ob b1 b2 q)
    have I1 : Inv X pins σ (upd H s.heap.objs.size (.tup [.int (i : Nat), x])) { s with heap := h2, toks := tk + 1 } := I.turnedNew (ch := [e, it]) kept hf (Nat.le_refl _) new
    refine ⟨.ref s.heap.objs.size, _, I1, rfl, ⟨_, x, rfl, I.hok.fresh (Nat.le_refl _), rfl, fun ys hy => by rw [I.tuple_inj hy hq]; exact hx⟩, ⟨⟨u, ?_⟩, hst.1.at fun o q => (sb.2 it (Ne.symm hne)).trans q, hne⟩, fun b hb => ?_⟩
    · have e1 : ((i + 1 : Nat) : Int) = (i : Int) + 1 := by omega
      rw [e1]
      exact he2
    · have hb' : b < s.heap.objs.size := by
        have e' : b = e ∨ b = it := by simpa using hb
        rcases e' with z | z
        · rw [z]
          exact hel
        · rw [z]
          exact hil
      rw [upd_ne (Nat.ne_of_lt hb')]
      exact (hf b hb).1
  done := by
    intro X hP hw hK hc i pins s σ H E I hf st hg
    subst hP hw hK
    obtain ⟨⟨old, he⟩, hit, hne⟩ := st
    obtain ⟨xs, hq, hx⟩ := hg
    obtain ⟨its, rv, p, hz⟩ := I.tuple hq
    have ht : s.heap.IsTuple a its.toArray := p
    obtain ⟨n1, n2⟩ := tup_apart ht he hit
    obtain ⟨f0, f1, f2, f3, f4, f5⟩ := hf it (by simp)
    have D := Draws.tuple (prog := X.prog) (w := X.w) (A := X.A.in1) (I.ok.hd hc) it a n1 its.toArray
    have hn : its.toArray.size = i := by
      have hl := rv.length
      simp
      omega
    refine wpAny_pyNext_enum_endD D he ⟨by rw [hn]; exact hit, ht⟩ ?_
    intro h' eb
    exact ⟨rfl, I.turned (t' := s.toks) (fun b o hb q => eb b o hb q) f0 f1 f3 f4 f5⟩
  self := fun A i s Q E ⟨⟨_, he⟩, _⟩ h => wpAny_pyIter_enum he h
def iEnumT (K : PySem.W.Frag) (ta : TA) : TI := fun σ H R => ta σ H fun vs H1 => ∃ a xs, vs = [.ref a] ∧ SqT K H1 a xs ∧ R (Itet K a) H1
theorem pi_enumT {X : Cx} {e : Expr} {ta : TA} {p pos tpos : Pos} {elts : List Expr} {kk : Nat} (hg : Gl X "enumerate") (hm : X.mg "enumerate" = none) (ha : PA X [e] ta)
    (hs : starEach [e] X.env = [(false, eval e X.env)] := by rfl) : PI X (.Tuple elts kk tpos) (.Call (.Name "enumerate" p) [e] [] pos) (iEnumT X.K ta) := by
  constructor
  intro pins s σ H R I h
  refine Call_ (ld_blt I hg hm boot_enumerate (PyProof.Rows.callWith_type1 (thn (ha.run pos pins s σ H _ I h) ?_) hs rfl))
  rintro us s1 ⟨vs, H1, I1, r1, a, xs, ex, hq, q⟩
  subst ex
  cases r1 with
  | cons r rr =>
    cases rr
    cases r
    obtain ⟨its, rv, p', hz⟩ := I1.tuple hq
    refine jEnumTup (items := its.toArray) p' ?_
    intro h' he hit hk
    refine wpAny_pyIter_enum he ?_
    have I2 : Inv X pins σ H1 { s1 with heap := h' } := I1.kept (t' := s1.toks) hk
    refine ⟨s1.heap.objs.size + 1, [s1.heap.objs.size + 1, s1.heap.objs.size], _, _, H1, rfl, I2, turn_enumT a (s1.heap.objs.size + 1) s1.heap.objs.size, ⟨⟨.none, he⟩, hit, Nat.succ_ne_self _⟩, ?_, q⟩
    intro b hb
    have e' : b = s1.heap.objs.size + 1 ∨ b = s1.heap.objs.size := by simpa using hb
    have hle : s1.heap.objs.size ≤ b := by
      rcases e' with z | z
      · rw [z]
        exact Nat.le_succ _
      · rw [z]
        exact Nat.le_refl _
    exact I1.fpOk hle (I1.hok.fresh hle)
theorem for_enumT {K : PySem.W.Frag} {a : Addr} {xs : List V} {g : TG} {tb : TS} {D : Ends} {σ : L2.St} {H : Hp} (Pv : Nat → L2.St → Hp → Prop) (h0 : Pv 0 σ H) (hl : ∀ i σ H, i ≤ xs.length → Pv i σ H → SqT K H a xs)
    (hs : ∀ i x σ H T, xs[i]? = some x → Pv i σ H → H T = none → g (.ref T) σ (upd H T (.tup [.int (i : Nat), x])) fun σ2 H2 => tb { D with nx := Pv (i + 1), ct := Pv (i + 1), bk := D.nx } σ2 H2) (hd : ∀ σ H, Pv xs.length σ H → D.nx σ H) :
    ∃ W : Nat → Nat → L2.St → Hp → Prop, (∃ m, W 0 m σ H) ∧ ∀ i m σ H, W i m σ H →
      ((Itet K a).stop i H ∧ D.nx σ H) ∨ ((Itet K a).go i H ∧ ∃ N : L2.St → Hp → Prop, (∀ σ' H', N σ' H' → ∃ m', m' < m ∧ W (i + 1) m' σ' H') ∧ ∀ x H', (Itet K a).yld i H x H' → g x σ H' fun σ2 H2 => tb { D with nx := N, ct := N, bk := D.nx } σ2 H2) := by
  refine ⟨fun i m s h => m + i = xs.length ∧ Pv i s h, ⟨xs.length, rfl, h0⟩, ?_⟩
  rintro i m σ H ⟨em, p⟩
  have hi : i ≤ xs.length := by omega
  have q := hl i σ H hi p
  rcases Nat.lt_or_ge i xs.length with hlt | hge
  · refine .inr ⟨⟨xs, xs[i], q, by simp [hlt]⟩, Pv (i + 1), fun σ' H' p' => ⟨m - 1, by omega, by omega, p'⟩, ?_⟩
    rintro x H' ⟨T, y, rfl, hT, rfl, hy⟩
    exact hs i y σ H T (hy xs q) p hT
  · have e : i = xs.length := by omega
    subst e
    exact .inl ⟨⟨xs, q, rfl⟩, hd σ H p⟩
end J

set_option Elab.async false
set_option linter.all false
set_option maxRecDepth 100000
set_option maxHeartbeats 8000000
namespace J
open PySem PySem.Spec PyProof.Rows L2
/-! ### an own error with two fields -/
def spXI2 (C : Addr) (f g : Str) : Sp := fun vs H Q _ => ∃ (a : Addr) (v u : V), vs = [.ref a, v, u] ∧ H a = some (exo a C none) ∧ ∀ dx, H dx = none → dx ≠ a → Q .non (upd (upd (upd H dx (exd dx [(f, v)])) a (exo a C (some dx))) dx (exd dx [(g, u), (f, v)]))
structure Ex2 (P : Program) (w : World) (K : PySem.W.Frag) (mg : Str → Option Value) (base : Heap) (x f g : Str) (C fI : Addr) (fd : FuncData) (ps : List Str) : Prop where
  o : OexC K C
  i : PySem.W.findIn K (.ref C) "__init__" = some (some (.ref fI))
  t : PySem.W.typeIn K (.ref fI) = some (.type "function")
  F : FnOk P w K mg base CX0 1 fI fd ps (spXI2 C f g)
  b : Binds K fd ps []
  m : mg x = some (.ref C)
  xf : XfC K C
  no1 : PySem.W.findIn K (.ref C) f = some none
  no2 : PySem.W.findIn K (.ref C) g = some none
  te : PySem.W.exmOne K (.ref C) (.ref C) = some true
def Tells2 (H : Hp) (C : Addr) (f g : Str) (v u : V) (E : XK) : Prop := ∀ d H', H d = none → Same H H' → H' d = some (.xd [(g, u), (f, v)]) → E (.ref C) (some d) H'
theorem Tells2.mono {H H1 : Hp} {C : Addr} {f g : Str} {v u : V} {E : XK} (h : Tells2 H C f g v u E) (S : Same H H1) : Tells2 H1 C f g v u E := fun d H' n S1 e => h d H' (S.free n) (S.trans S1) e
theorem mkO_of2 {C : Addr} {f g : Str} {v u : V} {H : Hp} {Q : XK} (h : Tells2 H C f g v u Q) : [v, u].length ≤ 1000 ∧ ∀ a, H a = none → spXI2 C f g (.ref a :: ([v, u] ++ [])) (upd H a (exo a C none))
    (fun z H2 => z = .non ∧ ∃ (d : Addr) (fs : List (Str × V)), H2 a = some (exo a C (some d)) ∧ H2 d = some (exd d fs) ∧ H d = none ∧ Q (.ref C) (some d) (upd (del H2 a) d (.xd fs))) (fun _ _ _ => False) := by
  refine ⟨(by show 2 ≤ 1000; decide), fun a ha => ⟨a, v, u, rfl, upd_same, fun dx hdx ne => ⟨rfl, dx, [(g, u), (f, v)], ?_, upd_same, ?_, ?_⟩⟩⟩
  · rw [upd_ne ne.symm, upd_same]
  · rw [upd_ne ne] at hdx
    exact hdx
  · rw [upd_ne ne] at hdx
    refine h _ _ hdx (fun b o e => ?_) upd_same
    have n1 := ne_of_none e hdx
    have n2 := ne_of_none e ha
    rw [upd_ne n1, del_ne n2, upd_ne n1, upd_ne n2, upd_ne n1, upd_ne n2]
    exact e
def ShAll (H : Hp) : List V → List Sh → Prop := Paired fun x s => Is H x s ∧ Known H (items s)
theorem ShAll.keep {H H' : Hp} (S : Same H H') : ∀ {xs : List V} {ss : List Sh}, ShAll H xs ss → ShAll H' xs ss
  | _, _, .nil => .nil
  | _, _, .cons h t => .cons ⟨h.1.keep S, h.2.keep S⟩ (ShAll.keep S t)
theorem ShAll.at_ {H : Hp} : ∀ {xs : List V} {ss : List Sh} {j : Nat} {x : V}, ShAll H xs ss → xs[j]? = some x → ∃ s, ss[j]? = some s ∧ Is H x s ∧ Known H (items s)
  | _, _, _, _, .nil, e => by simp at e
  | _, _, 0, _, .cons h _, e => by
    simp at e
    subst e
    exact ⟨_, rfl, h⟩
  | _, _, j + 1, x, .cons _ t, e => by
    obtain ⟨s, a, b⟩ := ShAll.at_ (j := j) (x := x) t (by simpa using e)
    exact ⟨s, by simpa using a, b⟩
theorem ShAll.len {H : Hp} {xs : List V} {ss : List Sh} (h : ShAll H xs ss) : xs.length = ss.length := Paired.length h
structure TiX (K : PySem.W.Frag) (mg : Str → Option Value) (C : Addr) : Prop extends TiC K C where
  isc : C8.InsC K C
  nt : PySem.W.kitOne K (.type "tuple") (.ref C) = some false
  nl : PySem.W.kitOne K (.type "list") (.ref C) = some false
  nf : PySem.W.notFirst K C (.type "tuple") = true
  mT : mg "Ties" = some (.ref C)
abbrev s_BadBook_init : Stmt := inClass (top 6) 0
theorem sc_BadBook_init : FnScope ["self", "index", "what"] ["self", "index", "what"] (defScope s_BadBook_init) := ⟨rfl, rfl, rfl, by decide +kernel, rfl, by decide +kernel, by decide +kernel⟩
abbrev s_check_threes : Stmt := top 22
theorem sc_check_threes : FnScope ["ties", "threes", "word", "index", "three"] ["ties", "threes", "word"] (defScope s_check_threes) := ⟨rfl, rfl, rfl, by decide +kernel, rfl, by decide +kernel, by decide +kernel⟩
/-- how a wrong book is told -/
abbrev Told (H : Hp) (CB : Addr) (j : Int) (u : Str) (E : XK) : Prop := Tells2 H CB "index" "what" (.int j) (.str u) E
def spChk (C CB : Addr) : Sp := fun vs H Q E => ∃ (t v : V) (u : Str), vs = [t, v, .str u] ∧ (((∃ z xs, t = .ref z ∧ H z = some (.lst xs)) ∧ Told H CB 0 "ties" E) ∨
  (∃ (x : Addr) (ns : List Int) (s : Sh) (ss : List Sh), t = .ref x ∧ TiesAt C H x ns ∧ Is H v s ∧ ShAll H (items s) ss ∧ ((s.isL || s.isT) = false → Told H CB 0 u E) ∧
    (∀ (j : Nat) (s' : Sh), (s.isL || s.isT) = true → ss[j]? = some s' → threeB ns s' = false → (∀ (i : Nat) (s' : Sh), i < j → ss[i]? = some s' → threeB ns s' = true) → Told H CB (j : Nat) "three" E) ∧
    ((s.isL || s.isT) = true → (∀ s' ∈ ss, threeB ns s' = true) → ∀ H', Same H H' → Q .non H')))
section
variable {P : Program} {w : World} {K : PySem.W.Frag} {mg : Str → Option Value} {base : Heap}
theorem ok_BadBook_init {f C : Addr} {fd : FuncData} (F : Fun K "__init__" "BadBook.__init__" s_BadBook_init f fd) (o : OexC K C) (no1 : PySem.W.findIn K (.ref C) "index" = some none) (no2 : PySem.W.findIn K (.ref C) "what" = some none) :
    FnOk P w K mg base CX0 1 f fd ["self", "index", "what"] (spXI2 C "index" "what") := by
  refine F.ok sc_BadBook_init (fun vs H Q E h => ?_) (fun cdv A outer s H vs Q E hr h => ?_)
  · obtain ⟨x, s, u, rfl, _⟩ := h
    rfl
  · obtain ⟨a, v, u, rfl, ha, k⟩ := h
    refine ⟨_, pss_cons (ps_ost (pv 0) (pv 1)) (pss_one (ps_ost (pv 0) (pv 2))), ?_⟩
    refine ⟨_, rfl, _, rfl, a, C, rfl, o, no1, .inl ⟨ha, fun dx hdx ne => ?_⟩⟩
    refine ⟨_, rfl, _, rfl, a, C, rfl, o, no2, .inr ⟨dx, [("index", v)], upd_same, by rw [upd_ne ne, upd_same], (by show 1 ≤ 900; decide), ?_⟩⟩
    exact k dx hdx ne
theorem ok_check_threes {f C CB fS fH fI : Addr} {fd fdS fdH fdI : FuncData} (F : Fun K "_check_threes" "_check_threes" s_check_threes f fd) (T : TiX K mg C) (nis : mg "isinstance" = none) (ne : mg "enumerate" = none)
    (GS : Cal P w K mg base CX0 1 "is_sequence" fS fdS ["thing"] spSeq) (GI : Cal P w K mg base CX0 3 "is_three" fH fdH ["ties", "thing"] (spThree C)) (GB : Ex2 P w K mg base "BadBook" "index" "what" CB fI fdI ["self", "index", "what"]) :
    FnOk P w K mg base (L2.CX P w) 4 f fd ["ties", "threes", "word"] (spChk C CB) := by
  refine F.okX sc_check_threes (fun vs H Q E h => ?_) (fun cdv A outer s H vs Q E hr h => ?_)
  · obtain ⟨t, v, u, rfl, _⟩ := h
    rfl
  · obtain ⟨t, v, u, rfl, h⟩ := h
    have hr2 : Room 2 _ := hr.mono (by decide)
    rcases h with ⟨⟨z, xs, rfl, hz⟩, k⟩ | ⟨x, ns, sh, ss, rfl, hT, hv, hs, k1, k2, k3⟩
    · refine ⟨_, (pss_cons 
  (ps_if (pt_not (pt_val (pe_callB call_isi (by rfl) nis (by decide +kernel) (pa_cons (pv 0) (pa_cons (pe_glob (v := .ref C) rfl T.mT rfl) pa_nil))))) (pss_one (ps_raise rfl (takes_of rfl rfl rfl rfl) (pmk_oex GB.o GB.i GB.t GB.F hr2 GB.b .nil pass0 rfl GB.m (pa_cons pe_int (pa_cons pe_str pa_nil))))) pss_nil) (pss_cons 
  (ps_if (pt_not (pt_val (pcal GS hr pass0 (pa_cons (pv 1) pa_nil)))) (pss_one (ps_raise rfl (takes_of rfl rfl rfl rfl) (pmk_oex GB.o GB.i GB.t GB.F hr2 GB.b .nil pass0 rfl GB.m (pa_cons pe_int (pa_cons (pv 2) pa_nil))))) pss_nil) (pss_one 
  (ps_for (passes_of rfl) rfl (pi_enum (by rfl) ne (pa_cons (pv 1) pa_nil)) (pg_tup (by rfl) (pgs_cons (pg_name (i := 3) sc_check_threes.nd rfl (Or.inl rfl)) (pgs_cons (pg_name (i := 4) sc_check_threes.nd rfl (Or.inl rfl)) pgs_nil))) (pss_one 
    (ps_if (pt_not (pt_val (pcal GI hr pass0 (pa_cons (pv 0) (pa_cons (pv 4) pa_nil))))) (pss_one (ps_raise rfl (takes_of rfl rfl rfl rfl) (pmk_oex GB.o GB.i GB.t GB.F hr2 GB.b .nil pass0 rfl GB.m (pa_cons (pv 3) (pa_cons pe_str pa_nil))))) pss_nil)))))), ?_⟩
      exact ⟨_, rfl, _, _, _, _, false, rfl, .own C, .base (.lst hz), T.nl, _, rfl, iteT (mkO_of2 k)⟩
    obtain ⟨dx, tt, hx, htt⟩ := id hT
    cases sh with
    | sc w =>
      refine ⟨_, (pss_cons 
  (ps_if (pt_not (pt_val (pe_callB call_isi (by rfl) nis (by decide +kernel) (pa_cons (pv 0) (pa_cons (pe_glob (v := .ref C) rfl T.mT rfl) pa_nil))))) (pss_one (ps_raise rfl (takes_of rfl rfl rfl rfl) (pmk_oex GB.o GB.i GB.t GB.F hr2 GB.b .nil pass0 rfl GB.m (pa_cons pe_int (pa_cons pe_str pa_nil))))) pss_nil) (pss_cons 
  (ps_if (pt_not (pt_val (pcal GS hr pass0 (pa_cons (pv 1) pa_nil)))) (pss_one (ps_raise rfl (takes_of rfl rfl rfl rfl) (pmk_oex GB.o GB.i GB.t GB.F hr2 GB.b .nil pass0 rfl GB.m (pa_cons pe_int (pa_cons (pv 2) pa_nil))))) pss_nil) (pss_one 
  (ps_for (passes_of rfl) rfl (pi_enum (by rfl) ne (pa_cons (pv 1) pa_nil)) (pg_tup (by rfl) (pgs_cons (pg_name (i := 3) sc_check_threes.nd rfl (Or.inl rfl)) (pgs_cons (pg_name (i := 4) sc_check_threes.nd rfl (Or.inl rfl)) pgs_nil))) (pss_one 
    (ps_if (pt_not (pt_val (pcal GI hr pass0 (pa_cons (pv 0) (pa_cons (pv 4) pa_nil))))) (pss_one (ps_raise rfl (takes_of rfl rfl rfl rfl) (pmk_oex GB.o GB.i GB.t GB.F hr2 GB.b .nil pass0 rfl GB.m (pa_cons (pv 3) (pa_cons pe_str pa_nil))))) pss_nil)))))), ?_⟩
      refine ⟨_, rfl, _, _, _, _, true, rfl, .own C, .base (.ins hx T.cl T.isc.ha T.isc.hn T.isc.htk T.isc.hm), T.isc.me, _, rfl, iteF ?_⟩
      exact ⟨_, rfl, _, Sh.sc w, rfl, hv, fun H1 S1 => ⟨_, rfl, iteT ⟨_, rfl, mkO_of2 ((k1 rfl).mono S1)⟩⟩⟩
    | dk =>
      refine ⟨_, (pss_cons 
  (ps_if (pt_not (pt_val (pe_callB call_isi (by rfl) nis (by decide +kernel) (pa_cons (pv 0) (pa_cons (pe_glob (v := .ref C) rfl T.mT rfl) pa_nil))))) (pss_one (ps_raise rfl (takes_of rfl rfl rfl rfl) (pmk_oex GB.o GB.i GB.t GB.F hr2 GB.b .nil pass0 rfl GB.m (pa_cons pe_int (pa_cons pe_str pa_nil))))) pss_nil) (pss_cons 
  (ps_if (pt_not (pt_val (pcal GS hr pass0 (pa_cons (pv 1) pa_nil)))) (pss_one (ps_raise rfl (takes_of rfl rfl rfl rfl) (pmk_oex GB.o GB.i GB.t GB.F hr2 GB.b .nil pass0 rfl GB.m (pa_cons pe_int (pa_cons (pv 2) pa_nil))))) pss_nil) (pss_one 
  (ps_for (passes_of rfl) rfl (pi_enum (by rfl) ne (pa_cons (pv 1) pa_nil)) (pg_tup (by rfl) (pgs_cons (pg_name (i := 3) sc_check_threes.nd rfl (Or.inl rfl)) (pgs_cons (pg_name (i := 4) sc_check_threes.nd rfl (Or.inl rfl)) pgs_nil))) (pss_one 
    (ps_if (pt_not (pt_val (pcal GI hr pass0 (pa_cons (pv 0) (pa_cons (pv 4) pa_nil))))) (pss_one (ps_raise rfl (takes_of rfl rfl rfl rfl) (pmk_oex GB.o GB.i GB.t GB.F hr2 GB.b .nil pass0 rfl GB.m (pa_cons (pv 3) (pa_cons pe_str pa_nil))))) pss_nil)))))), ?_⟩
      refine ⟨_, rfl, _, _, _, _, true, rfl, .own C, .base (.ins hx T.cl T.isc.ha T.isc.hn T.isc.htk T.isc.hm), T.isc.me, _, rfl, iteF ?_⟩
      exact ⟨_, rfl, _, Sh.dk, rfl, hv, fun H1 S1 => ⟨_, rfl, iteT ⟨_, rfl, mkO_of2 ((k1 rfl).mono S1)⟩⟩⟩
    | lst xs =>
      obtain ⟨p, rfl, hp⟩ := hv
      refine ⟨_, (pss_cons 
  (ps_if (pt_not (pt_val (pe_callB call_isi (by rfl) nis (by decide +kernel) (pa_cons (pv 0) (pa_cons (pe_glob (v := .ref C) rfl T.mT rfl) pa_nil))))) (pss_one (ps_raise rfl (takes_of rfl rfl rfl rfl) (pmk_oex GB.o GB.i GB.t GB.F hr2 GB.b .nil pass0 rfl GB.m (pa_cons pe_int (pa_cons pe_str pa_nil))))) pss_nil) (pss_cons 
  (ps_if (pt_not (pt_val (pcal GS hr pass0 (pa_cons (pv 1) pa_nil)))) (pss_one (ps_raise rfl (takes_of rfl rfl rfl rfl) (pmk_oex GB.o GB.i GB.t GB.F hr2 GB.b .nil pass0 rfl GB.m (pa_cons pe_int (pa_cons (pv 2) pa_nil))))) pss_nil) (pss_one 
  (ps_for (passes_of rfl) rfl (pi_enum (by rfl) ne (pa_cons (pv 1) pa_nil)) (pg_tup (by rfl) (pgs_cons (pg_name (i := 3) sc_check_threes.nd rfl (Or.inl rfl)) (pgs_cons (pg_name (i := 4) sc_check_threes.nd rfl (Or.inl rfl)) pgs_nil))) (pss_one 
    (ps_if (pt_not (pt_val (pcal GI hr pass0 (pa_cons (pv 0) (pa_cons (pv 4) pa_nil))))) (pss_one (ps_raise rfl (takes_of rfl rfl rfl rfl) (pmk_oex GB.o GB.i GB.t GB.F hr2 GB.b .nil pass0 rfl GB.m (pa_cons (pv 3) (pa_cons pe_str pa_nil))))) pss_nil)))))), ?_⟩
      refine ⟨_, rfl, _, _, _, _, true, rfl, .own C, .base (.ins hx T.cl T.isc.ha T.isc.hn T.isc.htk T.isc.hm), T.isc.me, _, rfl, iteF ?_⟩
      refine ⟨_, rfl, _, Sh.lst xs, rfl, ⟨p, rfl, hp⟩, fun H1 S1 => ⟨_, rfl, iteF ?_⟩⟩
      have h1 := S1 _ _ hp
      refine ⟨_, rfl, p, xs, rfl, SqL.of h1, for_enum (K := K) (a := p) (xs := xs) (fun i σ H' => ∃ v3 v4 : Option V, σ = [some (.ref x), some (.ref p), some (.str u), v3, v4] ∧ Same H1 H' ∧ ∀ a s', a < i → ss[a]? = some s' → threeB ns s' = true)
        ⟨none, none, rfl, Same.refl _, fun a s' ha => absurd ha (Nat.not_lt_zero a)⟩ (fun i σ H' _ ⟨_, _, _, S, _⟩ => SqL.of (S _ _ h1)) ?_ ?_⟩
      · rintro i y σ H' T0 hy ⟨v3, v4, rfl, S3, hb⟩ hT0
        have S4 : Same H1 (upd H' T0 (.tup [.int (i : Nat), y])) := S3.trans (new_same hT0)
        refine ⟨T0, _, rfl, SqT.of upd_same, rfl, _, _, rfl, _, _, rfl, rfl, ?_⟩
        generalize upd H' T0 (.tup [.int (i : Nat), y]) = H4 at S4
        have SA := S1.trans S4
        obtain ⟨sy, esy, isy, kny⟩ := (hs.keep SA).at_ hy
        refine ⟨_, rfl, _, rfl, x, ns, y, sy, rfl, hT.keep SA, isy, kny, fun H5 S5 => ⟨_, rfl, ?_⟩⟩
        cases e : threeB ns sy with
        | false => exact iteT ⟨_, rfl, mkO_of2 ((k2 i sy rfl esy e hb).mono (SA.trans S5))⟩
        | true =>
          refine iteF ⟨_, _, rfl, S4.trans S5, fun a s' ha es => ?_⟩
          rcases Nat.lt_or_ge a i with h | h
          · exact hb a s' h es
          · obtain rfl : a = i := by omega
            rw [esy] at es
            obtain rfl := Option.some.inj es
            exact e
      · rintro σ H' ⟨v3, v4, rfl, S3, hb⟩
        refine k3 rfl (fun s' hm => ?_) _ (S1.trans S3)
        obtain ⟨j, hj⟩ := List.mem_iff_getElem?.mp hm
        have l := hs.len
        have lj := (List.getElem?_eq_some_iff.mp hj).1
        exact hb j s' (by show j < xs.length; have : (items (Sh.lst xs)).length = xs.length := rfl; omega) hj
    | tup xs =>
      obtain ⟨p, rfl, hp⟩ := hv
      refine ⟨_, (pss_cons 
  (ps_if (pt_not (pt_val (pe_callB call_isi (by rfl) nis (by decide +kernel) (pa_cons (pv 0) (pa_cons (pe_glob (v := .ref C) rfl T.mT rfl) pa_nil))))) (pss_one (ps_raise rfl (takes_of rfl rfl rfl rfl) (pmk_oex GB.o GB.i GB.t GB.F hr2 GB.b .nil pass0 rfl GB.m (pa_cons pe_int (pa_cons pe_str pa_nil))))) pss_nil) (pss_cons 
  (ps_if (pt_not (pt_val (pcal GS hr pass0 (pa_cons (pv 1) pa_nil)))) (pss_one (ps_raise rfl (takes_of rfl rfl rfl rfl) (pmk_oex GB.o GB.i GB.t GB.F hr2 GB.b .nil pass0 rfl GB.m (pa_cons pe_int (pa_cons (pv 2) pa_nil))))) pss_nil) (pss_one 
  (ps_for (passes_of rfl) rfl (pi_enumT (by rfl) ne (pa_cons (pv 1) pa_nil)) (pg_tup (by rfl) (pgs_cons (pg_name (i := 3) sc_check_threes.nd rfl (Or.inl rfl)) (pgs_cons (pg_name (i := 4) sc_check_threes.nd rfl (Or.inl rfl)) pgs_nil))) (pss_one 
    (ps_if (pt_not (pt_val (pcal GI hr pass0 (pa_cons (pv 0) (pa_cons (pv 4) pa_nil))))) (pss_one (ps_raise rfl (takes_of rfl rfl rfl rfl) (pmk_oex GB.o GB.i GB.t GB.F hr2 GB.b .nil pass0 rfl GB.m (pa_cons (pv 3) (pa_cons pe_str pa_nil))))) pss_nil)))))), ?_⟩
      refine ⟨_, rfl, _, _, _, _, true, rfl, .own C, .base (.ins hx T.cl T.isc.ha T.isc.hn T.isc.htk T.isc.hm), T.isc.me, _, rfl, iteF ?_⟩
      refine ⟨_, rfl, _, Sh.tup xs, rfl, ⟨p, rfl, hp⟩, fun H1 S1 => ⟨_, rfl, iteF ?_⟩⟩
      have h1 := S1 _ _ hp
      refine ⟨_, rfl, p, xs, rfl, SqT.of h1, for_enumT (K := K) (a := p) (xs := xs) (fun i σ H' => ∃ v3 v4 : Option V, σ = [some (.ref x), some (.ref p), some (.str u), v3, v4] ∧ Same H1 H' ∧ ∀ a s', a < i → ss[a]? = some s' → threeB ns s' = true)
        ⟨none, none, rfl, Same.refl _, fun a s' ha => absurd ha (Nat.not_lt_zero a)⟩ (fun i σ H' _ ⟨_, _, _, S, _⟩ => SqT.of (S _ _ h1)) ?_ ?_⟩
      · rintro i y σ H' T0 hy ⟨v3, v4, rfl, S3, hb⟩ hT0
        have S4 : Same H1 (upd H' T0 (.tup [.int (i : Nat), y])) := S3.trans (new_same hT0)
        refine ⟨T0, _, rfl, SqT.of upd_same, rfl, _, _, rfl, _, _, rfl, rfl, ?_⟩
        generalize upd H' T0 (.tup [.int (i : Nat), y]) = H4 at S4
        have SA := S1.trans S4
        obtain ⟨sy, esy, isy, kny⟩ := (hs.keep SA).at_ hy
        refine ⟨_, rfl, _, rfl, x, ns, y, sy, rfl, hT.keep SA, isy, kny, fun H5 S5 => ⟨_, rfl, ?_⟩⟩
        cases e : threeB ns sy with
        | false => exact iteT ⟨_, rfl, mkO_of2 ((k2 i sy rfl esy e hb).mono (SA.trans S5))⟩
        | true =>
          refine iteF ⟨_, _, rfl, S4.trans S5, fun a s' ha es => ?_⟩
          rcases Nat.lt_or_ge a i with h | h
          · exact hb a s' h es
          · obtain rfl : a = i := by omega
            rw [esy] at es
            obtain rfl := Option.some.inj es
            exact e
      · rintro σ H' ⟨v3, v4, rfl, S3, hb⟩
        refine k3 rfl (fun s' hm => ?_) _ (S1.trans S3)
        obtain ⟨j, hj⟩ := List.mem_iff_getElem?.mp hm
        have l := hs.len
        have lj := (List.getElem?_eq_some_iff.mp hj).1
        exact hb j s' (by show j < xs.length; have : (items (Sh.tup xs)).length = xs.length := rfl; omega) hj
end
end J

set_option Elab.async false
set_option linter.all false
set_option maxRecDepth 100000
set_option maxHeartbeats 4000000
/-! range objects as values that are walked; in, not in of tuples -/
namespace L2
open PySem PySem.Spec PyProof.Rows
section
variable {X : Cx} {tg : Expr}
theorem cr_range1 : CallR X (.type "range") (fun vs H Q => ∃ j, vs = [V.int j] ∧ ∀ p, H p = none → Q (.ref p) (upd H p (.rng 0 j))) := by
  intro pins s σ H vs us Q I r h
  obtain ⟨j, rfl, q⟩ := h
  obtain ⟨u1, rfl, ri⟩ := vals1 r
  obtain ⟨t, rfl⟩ := ri
  refine call_range_1 ⟨.ref s.heap.objs.size, upd H s.heap.objs.size (.rng 0 j), I.laid (t' := s.toks + 2) (fun b o e => Heap.get?_push_of_some _ e) (Nat.le_refl _) ?_, rfl, q _ (I.hok.fresh (Nat.le_refl _))⟩
  exact ⟨_, _, _, Heap.get?_push_size _ rfl⟩
def iRngO (tl : TE) : TI := fun σ H R => tl σ H fun x H1 => ∃ (a : Addr) (n : Nat), x = .ref a ∧ H1 a = some (.rng 0 (n : Nat)) ∧ n ≤ 1000 ∧ R (Itr 0 n) H1
theorem pi_rngO {l : Expr} {tl : TE} (hl : PE X l tl) : PI X tg l (iRngO tl) := by
  refine ⟨fun pins s σ H R I h => ?_⟩
  refine thn (hl.run pins s σ H _ I h) fun v s1 ⟨x, H1, I1, r1, q1⟩ => ?_
  obtain ⟨a, n, e, ha, hn, q⟩ := q1
  subst e
  cases r1
  obtain ⟨t, u, w, ho⟩ := (show ∃ t u v, s1.heap.get? a = some { cls := .type "range", data := .fields #[.int 0 t, .int (n : Nat) u, .int 1 v] } from I1.hok a _ ha)
  refine wpAny_pyIter_range (show IsRange s1.heap a 0 (n : Nat) 1 t u w from ho) (small_one (by omega) (by omega) (by omega) (by omega)) ?_
  refine ⟨s1.heap.objs.size, [s1.heap.objs.size], _, _, H1, rfl, I1.kept (t' := s1.toks) fun b o e => Heap.get?_push_of_some _ e, turn_range _ 0 n, ?_, fun b hb => ?_, q⟩
  · have e1 : (0 : Int) + ((0 : Nat) : Int) * 1 = 0 := by simp
    have e2 : (n : Int) - ((0 : Nat) : Int) = Builtin.Range.rangeSize 0 (n : Nat) 1 := by rw [rangeSize_one]; split <;> omega
    show IsRangeIter _ _ (0 + ((0 : Nat) : Int) * 1) ((n : Int) - ((0 : Nat) : Int)) 1
    rw [e1, e2]
    exact Heap.get?_push_size _ rfl
  · have e : b = s1.heap.objs.size := by simpa using hb
    subst e
    exact I1.fpOk (Nat.le_refl _) (I1.hok.fresh (Nat.le_refl _))
def rInDT (K : PySem.W.Frag) : R2 := fun x y H Q => ∃ d ds, Dp K H x d ∧ Dp K H y (.tuple ds) ∧ SeqAt.shaped d = true ∧ SeqAt.shaped (.tuple ds) = true ∧ Q (.bl (ds.any fun z => PyData.eqv z d)) H
def rNotInDT (K : PySem.W.Frag) : R2 := fun x y H Q => ∃ d ds, Dp K H x d ∧ Dp K H y (.tuple ds) ∧ SeqAt.shaped d = true ∧ SeqAt.shaped (.tuple ds) = true ∧ Q (.bl (!ds.any fun z => PyData.eqv z d)) H
theorem op_inDT (hu : X.A.units + 65 < cLine) : OpR X (compareOp .In) (rInDT X.K) := by
  intro pins s σ H x y v u Q I rx ry h
  obtain ⟨d, ds, hd, he, sd, se, q⟩ := h
  obtain ⟨as, r1⟩ := Dp.reads I d x v hd rx
  obtain ⟨bs, r2⟩ := Dp.reads I (.tuple ds) y u he ry
  exact SeqAt.in_tuple_reads r2 r1 (SeqAt.canLay_of_shaped se) (SeqAt.canLay_of_shaped sd) (room_in_shaped sd hu) ⟨.bl _, H, I, rfl, q⟩
theorem op_notInDT (hu : X.A.units + 65 < cLine) : OpR X (compareOp .NotIn) (rNotInDT X.K) := by
  intro pins s σ H x y v u Q I rx ry h
  obtain ⟨d, ds, hd, he, sd, se, q⟩ := h
  obtain ⟨as, r1⟩ := Dp.reads I d x v hd rx
  obtain ⟨bs, r2⟩ := Dp.reads I (.tuple ds) y u he ry
  exact SeqAt.notIn_tuple_reads r2 r1 (SeqAt.canLay_of_shaped se) (SeqAt.canLay_of_shaped sd) (room_in_shaped sd hu) ⟨.bl _, H, I, rfl, q⟩
end
end L2

set_option Elab.async false
set_option linter.all false
set_option maxRecDepth 100000
set_option maxHeartbeats 8000000
namespace J
open PySem PySem.Spec PyProof.Rows L2
/-! ### all readings of given threes: the mathematics -/
def inR (ns : List Int) (t : List Int) : List Int → Bool
  | [p, q, r] => decide (t ∈ six ns p q r)
  | _ => false
/-- the threes that are barred with ts, ascending -/
def brd (ns : List Int) (ts : List (List Int)) : List (List Int) := (A3 ns.length ns.length).filter fun t => ts.any (inR ns t)
theorem inR_A3 {ns : List Int} {t u : List Int} (g : GoodB ns) (hu : u ∈ A3 ns.length ns.length) (h : inR ns t u = true) : t ∈ A3 ns.length ns.length := by
  obtain ⟨p, q, r, rfl, ip, iq, ir⟩ := A3_in hu (ns := ns) rfl
  obtain ⟨a, b, c, rfl, ia, ib, ic⟩ := six_in g ip iq ir t (of_decide_eq_true h)
  exact in_A3 ia ib ic
theorem brd_mem {ns : List Int} {ts : List (List Int)} {t : List Int} (g : GoodB ns) (ha : ∀ u ∈ ts, u ∈ A3 ns.length ns.length) : t ∈ brd ns ts ↔ ∃ u ∈ ts, inR ns t u = true := by
  unfold brd
  rw [List.mem_filter, List.any_eq_true]
  exact ⟨fun h => h.2, fun ⟨u, hu, e⟩ => ⟨inR_A3 g (ha u hu) e, u, hu, e⟩⟩
theorem brd_of {ns : List Int} {ts L : List (List Int)} (g : GoodB ns) (ha : ∀ u ∈ ts, u ∈ A3 ns.length ns.length) (pw : L.Pairwise (fun a b => TS.code 4 a < TS.code 4 b)) (mem : ∀ t, t ∈ L ↔ ∃ u ∈ ts, inR ns t u = true) : L = brd ns ts :=
  asc_unique (f := TS.code 4) pw ((A3_asc _ g.hi).sublist List.filter_sublist) fun t => by rw [mem, brd_mem g ha]
theorem A3_bd {n : Nat} {t : List Int} (hn : n ≤ 4) (h : t ∈ A3 n n) : t.length = 3 ∧ TS.Bd 4 t := by
  obtain ⟨p, q, r, hp, hq, hr, rfl⟩ := A3_mem.mp h
  refine ⟨rfl, fun m hm => ?_⟩
  simp only [List.mem_cons, List.not_mem_nil, or_false] at hm
  rcases hm with rfl | rfl | rfl <;> omega
/-- the keys of a dict -/
def KeysAre (kvs : List (List Key × V)) (ks : List (List Int)) : Prop := kvs.map (·.1) = ks.map (fun k => (k.map Sum.inl : List Key))
theorem keys_put {kvs : List (List Key × V)} {ks : List (List Int)} {k : List Int} {v : V} (h : KeysAre kvs ks) : KeysAre (putK kvs (k.map Sum.inl) v) (if k ∈ ks then ks else ks ++ [k]) := by
  unfold KeysAre at h ⊢
  have e : (kvs.any fun kv => decide (kv.1 = k.map Sum.inl)) = decide (k ∈ ks) := by
    rw [Bool.eq_iff_iff, List.any_eq_true, decide_eq_true_iff]
    constructor
    · rintro ⟨kv, hm, e⟩
      have e := of_decide_eq_true e
      have m : kv.1 ∈ kvs.map (·.1) := List.mem_map_of_mem hm
      rw [h, e] at m
      obtain ⟨k', hk', e2⟩ := List.mem_map.mp m
      rw [← inl_inj e2]
      exact hk'
    · intro hm
      have m : (k.map Sum.inl : List Key) ∈ kvs.map (·.1) := by
        rw [h]
        exact List.mem_map_of_mem hm
      obtain ⟨kv, hkv, e2⟩ := List.mem_map.mp m
      exact ⟨kv, hkv, decide_eq_true e2⟩
  unfold putK
  rw [e]
  by_cases c : k ∈ ks
  · rw [if_pos (decide_eq_true c), if_pos c, List.map_map, ← h]
    refine List.map_congr_left fun kv _ => ?_
    show (if kv.1 = k.map Sum.inl then (kv.1, v) else kv).1 = kv.1
    split <;> rfl
  · rw [if_neg (fun z => c (of_decide_eq_true z)), if_neg c, List.map_append, List.map_append, h]
    rfl
theorem keys_len {kvs : List (List Key × V)} {ks : List (List Int)} (h : KeysAre kvs ks) : kvs.length = ks.length := by
  have := congrArg List.length h
  rwa [List.length_map, List.length_map] at this
/-- things that are threes -/
def ThrAt (H : Hp) (xs : List V) (ts : List (List Int)) : Prop := Paired (fun x t => ∃ s, Is H x s ∧ (s.isL || s.isT) = true ∧ items s = t.map V.int) xs ts
theorem ThrAt.keep {H H' : Hp} {xs : List V} {ts : List (List Int)} (h : ThrAt H xs ts) (S : Same H H') : ThrAt H' xs ts := Paired.mapP h fun x t ⟨s, a, b, c⟩ => ⟨s, a.keep S, b, c⟩
theorem ThrAt.len {H : Hp} {xs : List V} {ts : List (List Int)} (h : ThrAt H xs ts) : xs.length = ts.length := Paired.length h
theorem paired_at {α β : Type} {F : α → β → Prop} : ∀ {xs : List α} {ts : List β} {j : Nat} {x : α}, Paired F xs ts → xs[j]? = some x → ∃ t, ts[j]? = some t ∧ F x t
  | _, _, _, _, .nil, e => by simp at e
  | _, _, 0, _, .cons r _, e => ⟨_, rfl, by rw [← Option.some.inj e]; exact r⟩
  | _, _, j + 1, _, .cons _ t, e => by
    obtain ⟨y, h1, h2⟩ := paired_at (j := j) t (by simpa using e)
    exact ⟨y, by simpa using h1, h2⟩
/-- the dict while it grows -/
structure Dct (n : Nat) (H1 H : Hp) (D : Addr) (ks : List (List Int)) : Prop where
  S : Same H1 H
  f : H1 D = none
  nd : ks.Nodup
  A : ∀ k ∈ ks, k ∈ A3 n n
  d : ∃ kvs, H D = some (.dT kvs) ∧ KeysAre kvs ks
theorem Dct.keep {n : Nat} {H1 H H' : Hp} {D : Addr} {ks : List (List Int)} (G : Dct n H1 H D ks) (S : Same H H') : Dct n H1 H' D ks := by
  obtain ⟨a, b, c, d, kvs, e, f⟩ := G
  exact ⟨a.trans S, b, c, d, kvs, S _ _ e, f⟩
theorem Dct.put {n : Nat} {H1 H : Hp} {D a : Addr} {ks : List (List Int)} {k : List Int} {v : V} (hn : n ≤ 4) (G : Dct n H1 H D ks) (ha : H a = some (.tup (k.map V.int))) (hk : k ∈ A3 n n) : ∃ H', DPut H D (.ref a) v H' ∧ Dct n H1 H' D (if k ∈ ks then ks else ks ++ [k]) := by
  obtain ⟨S, f, nd, A, kvs, e, K⟩ := G
  have l : kvs.length ≤ 64 := by
    rw [keys_len K]
    exact Nat.le_trans (len_sub nd A) (A3_len n hn)
  refine ⟨_, DPut.t (k := k.map Sum.inl) e (by rw [kVl_ints]; exact ha) (by rw [sizeLine_eq]; omega), fun b o eb => ?_, f, ?_, ?_, _, upd_same, keys_put K⟩
  · rw [upd_ne (ne_of_none eb f)]
    exact S _ _ eb
  · split
    · exact nd
    · rename_i c
      exact nd_snoc nd c
  · intro u hu
    split at hu
    · exact A u hu
    · rcases List.mem_append.mp hu with h | h
      · exact A u h
      · rw [List.mem_singleton.mp h]
        exact hk
theorem put_mem {ks : List (List Int)} {k t : List Int} : t ∈ (if k ∈ ks then ks else ks ++ [k]) ↔ t ∈ ks ∨ t = k := by
  split
  · rename_i c
    exact ⟨.inl, fun h => h.elim id (fun e => e ▸ c)⟩
  · rw [List.mem_append, List.mem_singleton]
theorem un1 {k : Nat} {A : Around} (r : Room k A) : A.units + 1 < cLine := by have := r.un; omega
abbrev s_with_readings : Stmt := top 23
theorem sc_with_readings : FnScope ["ties", "threes", "readings", "three", "reading"] ["ties", "threes"] (defScope s_with_readings) := ⟨rfl, rfl, rfl, by decide +kernel, rfl, by decide +kernel, by decide +kernel⟩
def spWith (C : Addr) : Sp := fun vs H Q _ => ∃ (x : Addr) (ns : List Int) (v : V) (s : Sh) (ts : List (List Int)), vs = [.ref x, v] ∧ TiesAt C H x ns ∧ GoodB ns ∧ Is H v s ∧ (s.isL || s.isT) = true ∧ ThrAt H (items s) ts ∧ (∀ t ∈ ts, t ∈ A3 ns.length ns.length) ∧
  ∀ (H' : Hp) (z : Addr), Same H H' → H z = none → TupsAt H' z (brd ns ts) → Q (.ref z) H'
section
variable {P : Program} {w : World} {K : PySem.W.Frag} {mg : Str → Option Value} {base : Heap}
theorem ok_with_readings {f C CT fR : Addr} {fd fdR : FuncData} (F : Fun K "_with_readings" "_with_readings" s_with_readings f fd) (nt : mg "tuple" = none) (nso : mg "sorted" = none)
    (GR : Cal P w K mg base (L2.CX P w) 4 "readings_of" fR fdR ["ties", "three"] (spReadings C CT)) : FnOk P w K mg base CX0 5 f fd ["ties", "threes"] (spWith C) := by
  refine F.ok sc_with_readings (fun vs H Q E h => ?_) (fun cdv A outer s H vs Q E hr h => ?_)
  · obtain ⟨x, ns, v, s, ts, rfl, _⟩ := h
    rfl
  · obtain ⟨x, ns, v, sh, ts, rfl, hT, gb, hv, hq, hth, hA, k⟩ := h
    cases sh with
    | sc u => cases hq
    | dk => cases hq
    | lst xs =>
      obtain ⟨p0, rfl, hp⟩ := hv
      have h4 := gb.hi
      refine ⟨_, (pss_cons 
  (ps_set (i := 2) sc_with_readings.nd rfl (Or.inl rfl) pe_dnewT) (pss_cons 
  (ps_for PassesOwn.never rfl (pi_list (pv 1)) (pg_name (i := 3) sc_with_readings.nd rfl (Or.inl rfl)) (pss_one 
    (ps_for PassesOwn.never rfl (pi_tup (pcal GR hr passL (pa_cons (pv 0) (pa_cons (pv 3) pa_nil)))) (pg_name (i := 4) sc_with_readings.nd rfl (Or.inl rfl)) (pss_one 
      (ps_asg pe_bl (pg_sub (pv 2) (pv 4) (set_dict (un1 hr)))))))) (pss_one 
  (ps_ret (pe_callTy (T := "tuple") (r := rTup K) call_tuple_of (by rfl) nt (by decide +kernel) (pa_cons (pe_callB (r := rSortD 3 4) (cr_sortedD rfl (by decide)) (by rfl) nso (by decide +kernel) (pa_cons (pv 2) pa_nil)) pa_nil)))))), ?_⟩
      refine fun D hD => ?_
      have S0 : Same H (upd H D (.dT [])) := new_same hD
      have hp1 := S0 _ _ hp
      refine ⟨_, rfl, p0, rfl, ⟨xs, SqL.of hp1⟩, for_list (K := K) (a := p0) (xs := xs) (fun i σ H' => ∃ (v3 v4 : Option V) (ks : List (List Int)), σ = [some (.ref x), some (.ref p0), some (.ref D), v3, v4] ∧ Dct ns.length H H' D ks ∧ ∀ t, t ∈ ks ↔ ∃ u ∈ ts.take i, inR ns t u = true)
        ⟨none, none, [], rfl, ⟨S0, hD, List.nodup_nil, fun k hk => by (cases hk), [], upd_same, rfl⟩, fun t => ⟨fun h => by (cases h), fun ⟨u, hu, _⟩ => by simp at hu⟩⟩ (fun i σ H' _ ⟨_, _, _, _, G, _⟩ => SqL.of (G.S _ _ hp)) ?_ ?_⟩
      · rintro i y σ H2 hy ⟨v3, v4, ks, rfl, G, hk⟩
        obtain ⟨t, et, sy, isy, sq, iy⟩ := paired_at (hth.keep G.S) hy
        have mt := hA t (List.mem_of_getElem? et)
        obtain ⟨p, q, r, rfl, ip, iq, ir⟩ := A3_in mt (ns := ns) rfl
        refine ⟨_, rfl, _, rfl, x, ns, y, sy, rfl, hT.keep G.S, gb, isy, known_ints iy, fun e => absurd (three_yes iy sq ip iq ir) (by rw [e]; decide), fun p' q' r' e' ip' iq' ir' H3 z L S3 nz hz R => ?_⟩
        obtain ⟨rfl, rfl, rfl⟩ := ints3 iy e'
        obtain ⟨ps, z1, z2, z3⟩ := hz
        have G3 := G.keep S3
        have z1D : z ≠ D := fun e => by
          obtain ⟨_, _, _, _, kvs, eD, _⟩ := G
          rw [e, eD] at nz
          cases nz
        refine ⟨z, rfl, ⟨_, SqT.of z1⟩, for_tup (K := K) (a := z) (xs := ps.map V.ref) (fun j σ H' => ∃ (v4 : Option V) (ks' : List (List Int)), σ = [some (.ref x), some (.ref p0), some (.ref D), some y, v4] ∧ Dct ns.length H H' D ks' ∧ But D H3 H' ∧ ∀ t, t ∈ ks' ↔ (t ∈ ks ∨ t ∈ L.take j))
          ⟨_, ks, rfl, G3, But.refl _ _, fun t => by simp⟩ (fun j σ H' _ ⟨_, _, _, _, F', _⟩ => SqT.of (F' _ _ z1D z1)) ?_ ?_⟩
        · rintro j w σ H4 hw ⟨v4, ks', rfl, G4, F4, m4⟩
          rw [List.getElem?_map] at hw
          cases ea : ps[j]? with
          | none =>
            rw [ea] at hw
            cases hw
          | some a =>
            rw [ea] at hw
            obtain rfl : V.ref a = w := Option.some.inj hw
            have lj := (List.getElem?_eq_some_iff.mp ea).1
            have el : L[j]? = some L[j] := List.getElem?_eq_getElem (by omega)
            generalize L[j] = t at el
            have ha := z3 j a t ea el
            have mL := (R.2 t).mp (List.mem_of_getElem? el)
            have aD : a ≠ D := fun e => by
              obtain ⟨_, _, _, _, kvs, eD, _⟩ := G3
              rw [e, eD] at ha
              cases ha
            obtain ⟨H5, dp, G5⟩ := G4.put (v := .bl true) h4 (F4 _ _ aD ha) (inR_A3 gb mt (decide_eq_true mL))
            refine ⟨_, rfl, _, rfl, D, H5, rfl, dp, _, _, rfl, G5, fun b o nb eb => ?_, fun u => ?_⟩
            · have e4 := F4 b o nb eb
              rcases dp with ⟨kvs, k, q1, q2, q3, q4⟩ | ⟨kvs, k, b', q1, q2, q3, q4, q5⟩
              · rw [q4, upd_ne nb]
                exact e4
              · rw [q5, upd_ne nb]
                exact e4
            · rw [put_mem, m4 u, List.take_add_one, el, List.mem_append]
              simp [or_assoc]
        · rintro σ H4 ⟨v4, ks', rfl, G4, F4, m4⟩
          refine ⟨_, _, ks', rfl, G4, fun t => ?_⟩
          rw [m4 t, hk t, List.length_map, z2, List.take_length, R.2 t, List.take_add_one, et]
          constructor
          · rintro (⟨u, hu, e⟩ | h)
            · exact ⟨u, List.mem_append_left _ hu, e⟩
            · exact ⟨_, List.mem_append_right _ (List.mem_singleton.mpr rfl), decide_eq_true h⟩
          · rintro ⟨u, hu, e⟩
            rcases List.mem_append.mp hu with h | h
            · exact .inl ⟨u, h, e⟩
            · obtain rfl := List.mem_singleton.mp h
              exact .inr (of_decide_eq_true e)
      · rintro σ H2 ⟨v3, v4, ks, rfl, ⟨S2, f2, nd, A, kvs, eD, K2⟩, hk⟩
        rw [show xs.length = ts.length from hth.len, List.take_length] at hk
        refine ⟨_, rfl, D, kvs, ks, rfl, eD, K2, fun t ht => A3_bd h4 (A t ht), fun L p pm ndL pw hL np => ?_⟩
        refine ⟨p, _, rfl, .inl ⟨SqL.of upd_same, fun z hz => ?_⟩⟩
        have S3 : Same H2 (upd H2 p (.lst (L.map fun q => V.ref q.1))) := new_same np
        have S4 := S3.trans (new_same (o := .tup (L.map fun q => V.ref q.1)) hz)
        have hz0 : H z = none := same_free S2 (same_free S3 hz)
        have e : L.map (·.2) = brd ns ts := by
          refine brd_of gb hA ?_ fun t => by rw [pm.mem_iff, hk t]
          rw [List.pairwise_map]
          refine List.Pairwise.imp_of_mem (fun {a b} ma mb h => ?_) (List.Pairwise.and pw (List.pairwise_map.mp ndL))
          have b1 := A3_bd h4 (A _ (pm.mem_iff.mp (List.mem_map_of_mem ma)))
          have b2 := A3_bd h4 (A _ (pm.mem_iff.mp (List.mem_map_of_mem mb)))
          rcases Int.lt_or_eq_of_le h.1 with c | c
          · exact c
          · exact absurd (code_inj (by omega) b1.2 b2.2 c) h.2
        refine k _ z (S2.trans S4) hz0 ⟨L.map (·.1), by rw [upd_same, List.map_map]; rfl, by rw [← e, List.length_map, List.length_map], fun j a t q1 q2 => ?_⟩
        rw [← e, List.getElem?_map] at q2
        rw [List.getElem?_map] at q1
        cases el : L[j]? with
        | none =>
          rw [el] at q1
          cases q1
        | some y =>
          rw [el] at q1 q2
          obtain rfl := Option.some.inj q1
          obtain rfl := Option.some.inj q2
          exact S4 _ _ (hL y (List.mem_of_getElem? el))
    | tup xs =>
      obtain ⟨p0, rfl, hp⟩ := hv
      have h4 := gb.hi
      refine ⟨_, (pss_cons 
  (ps_set (i := 2) sc_with_readings.nd rfl (Or.inl rfl) pe_dnewT) (pss_cons 
  (ps_for PassesOwn.never rfl (pi_tup (pv 1)) (pg_name (i := 3) sc_with_readings.nd rfl (Or.inl rfl)) (pss_one 
    (ps_for PassesOwn.never rfl (pi_tup (pcal GR hr passL (pa_cons (pv 0) (pa_cons (pv 3) pa_nil)))) (pg_name (i := 4) sc_with_readings.nd rfl (Or.inl rfl)) (pss_one 
      (ps_asg pe_bl (pg_sub (pv 2) (pv 4) (set_dict (un1 hr)))))))) (pss_one 
  (ps_ret (pe_callTy (T := "tuple") (r := rTup K) call_tuple_of (by rfl) nt (by decide +kernel) (pa_cons (pe_callB (r := rSortD 3 4) (cr_sortedD rfl (by decide)) (by rfl) nso (by decide +kernel) (pa_cons (pv 2) pa_nil)) pa_nil)))))), ?_⟩
      refine fun D hD => ?_
      have S0 : Same H (upd H D (.dT [])) := new_same hD
      have hp1 := S0 _ _ hp
      refine ⟨_, rfl, p0, rfl, ⟨xs, SqT.of hp1⟩, for_tup (K := K) (a := p0) (xs := xs) (fun i σ H' => ∃ (v3 v4 : Option V) (ks : List (List Int)), σ = [some (.ref x), some (.ref p0), some (.ref D), v3, v4] ∧ Dct ns.length H H' D ks ∧ ∀ t, t ∈ ks ↔ ∃ u ∈ ts.take i, inR ns t u = true)
        ⟨none, none, [], rfl, ⟨S0, hD, List.nodup_nil, fun k hk => by (cases hk), [], upd_same, rfl⟩, fun t => ⟨fun h => by (cases h), fun ⟨u, hu, _⟩ => by simp at hu⟩⟩ (fun i σ H' _ ⟨_, _, _, _, G, _⟩ => SqT.of (G.S _ _ hp)) ?_ ?_⟩
      · rintro i y σ H2 hy ⟨v3, v4, ks, rfl, G, hk⟩
        obtain ⟨t, et, sy, isy, sq, iy⟩ := paired_at (hth.keep G.S) hy
        have mt := hA t (List.mem_of_getElem? et)
        obtain ⟨p, q, r, rfl, ip, iq, ir⟩ := A3_in mt (ns := ns) rfl
        refine ⟨_, rfl, _, rfl, x, ns, y, sy, rfl, hT.keep G.S, gb, isy, known_ints iy, fun e => absurd (three_yes iy sq ip iq ir) (by rw [e]; decide), fun p' q' r' e' ip' iq' ir' H3 z L S3 nz hz R => ?_⟩
        obtain ⟨rfl, rfl, rfl⟩ := ints3 iy e'
        obtain ⟨ps, z1, z2, z3⟩ := hz
        have G3 := G.keep S3
        have z1D : z ≠ D := fun e => by
          obtain ⟨_, _, _, _, kvs, eD, _⟩ := G
          rw [e, eD] at nz
          cases nz
        refine ⟨z, rfl, ⟨_, SqT.of z1⟩, for_tup (K := K) (a := z) (xs := ps.map V.ref) (fun j σ H' => ∃ (v4 : Option V) (ks' : List (List Int)), σ = [some (.ref x), some (.ref p0), some (.ref D), some y, v4] ∧ Dct ns.length H H' D ks' ∧ But D H3 H' ∧ ∀ t, t ∈ ks' ↔ (t ∈ ks ∨ t ∈ L.take j))
          ⟨_, ks, rfl, G3, But.refl _ _, fun t => by simp⟩ (fun j σ H' _ ⟨_, _, _, _, F', _⟩ => SqT.of (F' _ _ z1D z1)) ?_ ?_⟩
        · rintro j w σ H4 hw ⟨v4, ks', rfl, G4, F4, m4⟩
          rw [List.getElem?_map] at hw
          cases ea : ps[j]? with
          | none =>
            rw [ea] at hw
            cases hw
          | some a =>
            rw [ea] at hw
            obtain rfl : V.ref a = w := Option.some.inj hw
            have lj := (List.getElem?_eq_some_iff.mp ea).1
            have el : L[j]? = some L[j] := List.getElem?_eq_getElem (by omega)
            generalize L[j] = t at el
            have ha := z3 j a t ea el
            have mL := (R.2 t).mp (List.mem_of_getElem? el)
            have aD : a ≠ D := fun e => by
              obtain ⟨_, _, _, _, kvs, eD, _⟩ := G3
              rw [e, eD] at ha
              cases ha
            obtain ⟨H5, dp, G5⟩ := G4.put (v := .bl true) h4 (F4 _ _ aD ha) (inR_A3 gb mt (decide_eq_true mL))
            refine ⟨_, rfl, _, rfl, D, H5, rfl, dp, _, _, rfl, G5, fun b o nb eb => ?_, fun u => ?_⟩
            · have e4 := F4 b o nb eb
              rcases dp with ⟨kvs, k, q1, q2, q3, q4⟩ | ⟨kvs, k, b', q1, q2, q3, q4, q5⟩
              · rw [q4, upd_ne nb]
                exact e4
              · rw [q5, upd_ne nb]
                exact e4
            · rw [put_mem, m4 u, List.take_add_one, el, List.mem_append]
              simp [or_assoc]
        · rintro σ H4 ⟨v4, ks', rfl, G4, F4, m4⟩
          refine ⟨_, _, ks', rfl, G4, fun t => ?_⟩
          rw [m4 t, hk t, List.length_map, z2, List.take_length, R.2 t, List.take_add_one, et]
          constructor
          · rintro (⟨u, hu, e⟩ | h)
            · exact ⟨u, List.mem_append_left _ hu, e⟩
            · exact ⟨_, List.mem_append_right _ (List.mem_singleton.mpr rfl), decide_eq_true h⟩
          · rintro ⟨u, hu, e⟩
            rcases List.mem_append.mp hu with h | h
            · exact .inl ⟨u, h, e⟩
            · obtain rfl := List.mem_singleton.mp h
              exact .inr (of_decide_eq_true e)
      · rintro σ H2 ⟨v3, v4, ks, rfl, ⟨S2, f2, nd, A, kvs, eD, K2⟩, hk⟩
        rw [show xs.length = ts.length from hth.len, List.take_length] at hk
        refine ⟨_, rfl, D, kvs, ks, rfl, eD, K2, fun t ht => A3_bd h4 (A t ht), fun L p pm ndL pw hL np => ?_⟩
        refine ⟨p, _, rfl, .inl ⟨SqL.of upd_same, fun z hz => ?_⟩⟩
        have S3 : Same H2 (upd H2 p (.lst (L.map fun q => V.ref q.1))) := new_same np
        have S4 := S3.trans (new_same (o := .tup (L.map fun q => V.ref q.1)) hz)
        have hz0 : H z = none := same_free S2 (same_free S3 hz)
        have e : L.map (·.2) = brd ns ts := by
          refine brd_of gb hA ?_ fun t => by rw [pm.mem_iff, hk t]
          rw [List.pairwise_map]
          refine List.Pairwise.imp_of_mem (fun {a b} ma mb h => ?_) (List.Pairwise.and pw (List.pairwise_map.mp ndL))
          have b1 := A3_bd h4 (A _ (pm.mem_iff.mp (List.mem_map_of_mem ma)))
          have b2 := A3_bd h4 (A _ (pm.mem_iff.mp (List.mem_map_of_mem mb)))
          rcases Int.lt_or_eq_of_le h.1 with c | c
          · exact c
          · exact absurd (code_inj (by omega) b1.2 b2.2 c) h.2
        refine k _ z (S2.trans S4) hz0 ⟨L.map (·.1), by rw [upd_same, List.map_map]; rfl, by rw [← e, List.length_map, List.length_map], fun j a t q1 q2 => ?_⟩
        rw [← e, List.getElem?_map] at q2
        rw [List.getElem?_map] at q1
        cases el : L[j]? with
        | none =>
          rw [el] at q1
          cases q1
        | some y =>
          rw [el] at q1 q2
          obtain rfl := Option.some.inj q1
          obtain rfl := Option.some.inj q2
          exact S4 _ _ (hL y (List.mem_of_getElem? el))
end
end J

set_option Elab.async false
set_option linter.all false
set_option maxRecDepth 100000
set_option maxHeartbeats 8000000
namespace J
open PySem PySem.Spec PyProof.Rows L2
theorem take_filter {α : Type} {p : α → Bool} {l : List α} {i : Nat} {x : α} (h : l[i]? = some x) : (l.take (i + 1)).filter p = (l.take i).filter p ++ (if p x = true then [x] else []) := by
  rw [List.take_add_one, h, List.filter_append]
  show _ ++ [x].filter p = _
  by_cases c : p x = true
  · rw [if_pos c, List.filter_cons_of_pos c]
    rfl
  · rw [if_neg c, List.filter_cons_of_neg c]
    rfl
theorem shaped_tupsT (L : List (List Int)) : SeqAt.shaped (.tuple (tupsD L)) = true := by
  obtain ⟨a, b⟩ := lay_tupsD L
  show (PyData.canLay0 (.tuple (tupsD L)) && decide (PyData.depth (.tuple (tupsD L)) ≤ 64)) = true
  rw [Bool.and_eq_true]
  refine ⟨by simp only [PyData.canLay0]; exact a, decide_eq_true ?_⟩
  simp only [PyData.depth]
  omega
theorem TupsAt.data {K : PySem.W.Frag} {H : Hp} {z : Addr} {L : List (List Int)} (h : TupsAt H z L) : Dp K H (.ref z) (.tuple (tupsD L)) := by
  obtain ⟨ps, e1, e2, e3⟩ := h
  exact .tup (SqT.of e1) (dp_tupsD e2 e3)
/-- any three in a tuple of threes -/
theorem in_tups {K : PySem.W.Frag} {H : Hp} {z a : Addr} {L : List (List Int)} {t : List Int} (h : TupsAt H z L) (ha : H a = some (.tup (t.map V.int))) {Q : VK} (k : Q (.bl (decide (t ∈ L))) H) : rInDT K (.ref a) (.ref z) H Q :=
  ⟨_, _, .tup (SqT.of ha) (dp_ints t), h.data, shaped_ti t, shaped_tupsT L, by rw [any_tup]; exact k⟩
theorem notIn_tups {K : PySem.W.Frag} {H : Hp} {z a : Addr} {L : List (List Int)} {t : List Int} (h : TupsAt H z L) (ha : H a = some (.tup (t.map V.int))) {Q : VK} (k : Q (.bl (!decide (t ∈ L))) H) : rNotInDT K (.ref a) (.ref z) H Q :=
  ⟨_, _, .tup (SqT.of ha) (dp_ints t), h.data, shaped_ti t, shaped_tupsT L, by rw [any_tup]; exact k⟩
abbrev s_but : Stmt := top 24
theorem sc_but : FnScope ["threes", "others", "three"] ["threes", "others"] (defScope s_but) := ⟨rfl, rfl, rfl, by decide +kernel, rfl, by decide +kernel, by decide +kernel⟩
def spBut : Sp := fun vs H Q _ => ∃ (a b : Addr) (L M : List (List Int)), vs = [.ref a, .ref b] ∧ TupsAt H a L ∧ TupsAt H b M ∧ L.length ≤ 64 ∧ ∀ (H' : Hp) (z : Addr), Same H H' → H z = none → LstsAt H' z (L.filter fun t => !decide (t ∈ M)) → Q (.ref z) H'
/-- things that were put one behind another into the list at D -/
structure GroP (R : Hp → Nat → Addr → Prop) (H1 H : Hp) (D : Addr) (i : Nat) : Prop where
  S : Same H1 H
  f : H1 D = none
  d : ∃ qs : List Addr, H D = some (.lst (qs.map V.ref)) ∧ qs.length = i ∧ ∀ (j : Nat) (a : Addr), qs[j]? = some a → R H j a
theorem GroP.nil {R : Hp → Nat → Addr → Prop} {H1 : Hp} {D : Addr} (hD : H1 D = none) : GroP R H1 (upd H1 D (.lst [])) D 0 := ⟨new_same hD, hD, [], upd_same, rfl, fun j a e => by simp at e⟩
theorem GroP.keep {R : Hp → Nat → Addr → Prop} {H1 H H' : Hp} {D : Addr} {i : Nat} (G : GroP R H1 H D i) (S : Same H H') (m : ∀ j a, R H j a → R H' j a) : GroP R H1 H' D i := by
  obtain ⟨a, b, qs, c, d, e⟩ := G
  exact ⟨a.trans S, b, qs, S _ _ c, d, fun j x h => m j x (e j x h)⟩
theorem GroP.app {R : Hp → Nat → Addr → Prop} {H1 H : Hp} {D z : Addr} {i : Nat} (G : GroP R H1 H D i) (m : ∀ H', But D H H' → ∀ j a, R H j a → R H' j a) (hz : R H i z) : ∃ acc, H D = some (.lst acc) ∧ acc.length = i ∧ GroP R H1 (upd H D (.lst (acc ++ [.ref z]))) D (i + 1) := by
  obtain ⟨S, f, qs, c, d, e⟩ := G
  refine ⟨_, c, by rw [List.length_map, d], fun b o eb => ?_, f, qs ++ [z], by rw [upd_same, List.map_append]; rfl, by rw [List.length_append, d]; rfl, fun j a h => ?_⟩
  · rw [upd_ne (ne_of_none eb f)]
    exact S _ _ eb
  · have mm := m _ (But.put (h := D) (H := H) (o := .lst (qs.map V.ref ++ [.ref z])))
    rcases Nat.lt_or_ge j qs.length with hj | hj
    · rw [List.getElem?_append_left hj] at h
      exact mm j a (e j a h)
    · have hj2 : j = qs.length := by
        have := (List.getElem?_eq_some_iff.mp h).1
        rw [List.length_append] at this
        have l : [z].length = 1 := rfl
        omega
      subst hj2
      rw [List.getElem?_append_right (Nat.le_refl _), Nat.sub_self] at h
      obtain rfl : z = a := Option.some.inj h
      rw [d]
      exact mm i z hz
/-- tuples stand under what is done to a list -/
theorem tup_but {H H' : Hp} {D b : Addr} {xs ys : List V} (hD : H D = some (.lst ys)) (B : But D H H') (e : H b = some (.tup xs)) : H' b = some (.tup xs) := B _ _ (fun q => by rw [q, hD] at e; cases e) e
/-! ### the table of what is barred -/
def rowB (L : List (List Int)) (n p q k : Nat) : List V := (List.range k).map fun r : Nat => V.bl (decide ([(p : Int), (q : Int), (r : Int)] ∈ L))
def Tab2 (n : Nat) (L : List (List Int)) (p : Nat) (H : Hp) (a : Addr) : Prop := ∃ qs : List Addr, H a = some (.tup (qs.map V.ref)) ∧ qs.length = n ∧ ∀ (q : Nat) (b : Addr), qs[q]? = some b → H b = some (.tup (rowB L n p q n))
def TabAt (n : Nat) (L : List (List Int)) (H : Hp) (z : Addr) : Prop := ∃ ps : List Addr, H z = some (.tup (ps.map V.ref)) ∧ ps.length = n ∧ ∀ (p : Nat) (a : Addr), ps[p]? = some a → Tab2 n L p H a
theorem Tab2.keep {n : Nat} {L : List (List Int)} {p : Nat} {H H' : Hp} {a : Addr} (h : Tab2 n L p H a) (S : ∀ b xs, H b = some (.tup xs) → H' b = some (.tup xs)) : Tab2 n L p H' a := by
  obtain ⟨qs, e, l, f⟩ := h
  exact ⟨qs, S _ _ e, l, fun q b hb => S _ _ (f q b hb)⟩
theorem TabAt.keep {n : Nat} {L : List (List Int)} {H H' : Hp} {z : Addr} (h : TabAt n L H z) (S : Same H H') : TabAt n L H' z := by
  obtain ⟨ps, e, l, f⟩ := h
  exact ⟨ps, S _ _ e, l, fun p a ha => (f p a ha).keep fun b xs e => S _ _ e⟩
abbrev s_bar_table : Stmt := top 25
theorem sc_bar_table : FnScope ["ties", "barred", "many", "p", "q", "r"] ["ties", "barred"] (defScope s_bar_table) := ⟨rfl, rfl, rfl, by decide +kernel, rfl, by decide +kernel, by decide +kernel⟩
def spTab (C : Addr) : Sp := fun vs H Q _ => ∃ (x b : Addr) (ns : List Int) (L : List (List Int)), vs = [.ref x, .ref b] ∧ TiesAt C H x ns ∧ GoodB ns ∧ TupsAt H b L ∧ ∀ (H' : Hp) (z : Addr), Same H H' → H z = none → TabAt ns.length L H' z → Q (.ref z) H'
section
variable {P : Program} {w : World} {K : PySem.W.Frag} {mg : Str → Option Value} {base : Heap}
theorem ok_but {f : Addr} {fd : FuncData} (F : Fun K "_but" "_but" s_but f fd) : FnOk P w K mg base CX0 1 f fd ["threes", "others"] spBut := by
  refine F.ok sc_but (fun vs H Q E h => ?_) (fun cdv A outer s H vs Q E hr h => ?_)
  · obtain ⟨a, b, L, M, rfl, _⟩ := h
    rfl
  · obtain ⟨a, b, L, M, rfl, hL, hM, l64, k⟩ := h
    refine ⟨_, (pss_one 
  (ps_ret (pe_lc (own := [("three", 2)]) (g := gName 2) (by rfl) sc_but.nd (pi_tup (pv 0)) (blkOk_by (own := [("three", 2)]) (N := ["threes", "others", "three"]) (sc := defScope s_but) (by decide +kernel)) (fun _ _ _ _ _ => pg_name (i := 2) sc_but.nd rfl (Or.inl rfl)) (fun _ _ _ _ _ => pts_one (pt_cmpR (r := rNotInDT K) (op_notInDT (units65 hr)) (pv 2) (pv 1) (by rfl))) (fun _ _ _ _ _ => (pv 2))))), ?_⟩
    obtain ⟨ps, e1, e2, e3⟩ := id hL
    refine ⟨_, rfl, a, rfl, ⟨_, SqT.of e1⟩, fun D hD => ?_⟩
    refine lc_tup (K := K) (a := a) (xs := ps.map V.ref) (fun i H2 => Gro H H2 D ((L.take i).filter fun t => !decide (t ∈ M))) (Gro.nil hD) (fun i H2 _ G => SqT.of (G.S _ _ e1)) ?_ ?_
    · rintro i y H2 hy G
      rw [List.getElem?_map] at hy
      cases ea : ps[i]? with
      | none =>
        rw [ea] at hy
        cases hy
      | some z =>
        rw [ea] at hy
        obtain rfl : V.ref z = y := Option.some.inj hy
        have li := (List.getElem?_eq_some_iff.mp ea).1
        have el : L[i]? = some L[i] := List.getElem?_eq_getElem (by omega)
        generalize L[i] = t at el
        have hz := G.S _ _ (e3 i z t ea el)
        have tf := take_filter (p := fun t => !decide (t ∈ M)) el
        refine ⟨rfl, _, rfl, _, rfl, notIn_tups (hM.keep G.S) hz ⟨_, rfl, ?_⟩⟩
        cases c : (!decide (t ∈ M)) with
        | true =>
          obtain ⟨acc, q1, q2, q3⟩ := G.app hz
          refine iteT ⟨_, rfl, acc, q1, ?_, ?_⟩
          · have := List.length_filter_le (fun t => !decide (t ∈ M)) (L.take i)
            rw [List.length_take] at this
            rw [q2]
            exact small1000 (by omega)
          · rw [tf, if_pos c]
            exact q3
        | false =>
          refine iteF ?_
          rw [tf, if_neg (by rw [c]; decide), List.append_nil]
          exact G
    · rintro H2 G
      rw [List.length_map, e2, List.take_length] at G
      exact k _ _ G.S hD G.lsts
theorem ok_bar_table {f C : Addr} {fd : FuncData} (F : Fun K "_bar_table" "_bar_table" s_bar_table f fd) (T : TiC K C) (nt : mg "tuple" = none) (nr : mg "range" = none) : FnOk P w K mg base CX0 1 f fd ["ties", "barred"] (spTab C) := by
  refine F.ok sc_bar_table (fun vs H Q E h => ?_) (fun cdv A outer s H vs Q E hr h => ?_)
  · obtain ⟨x, b, ns, L, rfl, _⟩ := h
    rfl
  · obtain ⟨x, b, ns, L, rfl, hT, gb, hL, k⟩ := h
    refine ⟨_, (pss_cons 
  (ps_set (i := 2) sc_bar_table.nd rfl (Or.inr rfl) (pe_callTy (T := "range") cr_range1 (by rfl) nr (by decide +kernel) (pa_cons (pe_fld (pv 0) rfl) pa_nil))) (pss_one 
  (ps_ret (pe_callTy (T := "tuple") (r := rTup K) call_tuple_of (by rfl) nt (by decide +kernel) (pa_cons (pe_lc (own := [("p", 3)]) (g := gName 3) (by rfl) sc_bar_table.nd (pi_rngO (pv 2)) (blkOk_by (own := [("p", 3)]) (N := ["ties", "barred", "many", "p", "q", "r"]) (sc := defScope s_bar_table) (by decide +kernel)) (fun _ _ _ _ _ => pg_name (i := 3) sc_bar_table.nd rfl (Or.inr rfl)) (fun _ _ _ _ _ => pts_nil) (fun _ _ _ _ _ => (pe_callTy (T := "tuple") (r := rTup K) call_tuple_of (by rfl) nt (by decide +kernel) (pa_cons (pe_lc (own := [("q", 4)]) (g := gName 4) (by rfl) sc_bar_table.nd (pi_rngO (pv 2)) (blkOk_by (own := [("q", 4)]) (N := ["ties", "barred", "many", "p", "q", "r"]) (by rfl)) (fun _ _ _ _ _ => pg_name (i := 4) sc_bar_table.nd rfl (Or.inr rfl)) (fun _ _ _ _ _ => pts_nil) (fun _ _ _ _ _ => (pe_callTy (T := "tuple") (r := rTup K) call_tuple_of (by rfl) nt (by decide +kernel) (pa_cons (pe_lc (own := [("r", 5)]) (g := gName 5) (by rfl) sc_bar_table.nd (pi_rngO (pv 2)) (blkOk_by (own := [("r", 5)]) (N := ["ties", "barred", "many", "p", "q", "r"]) (by rfl)) (fun _ _ _ _ _ => pg_name (i := 5) sc_bar_table.nd rfl (Or.inl rfl)) (fun _ _ _ _ _ => pts_nil) (fun _ _ _ _ _ => (pe_cmpR (r := rInDT K) (op_inDT (units65 hr)) (pe_tup (pa_cons (pv 3) (pa_cons (pv 4) (pa_cons (pv 5) pa_nil)))) (pv 1) (by rfl)))) pa_nil)))) pa_nil)))) pa_nil))))), ?_⟩
    obtain ⟨dx, t, hx, ht⟩ := id hT
    have h4 := gb.hi
    refine ⟨_, rfl, x, C, dx, _, _, rfl, hx, T.cl, T.nM, tf_many _ _, _, rfl, fun m hm => ?_⟩
    have Sm : Same H (upd H m (.rng 0 (ns.length : Nat))) := new_same hm
    have em : (upd H m (.rng 0 (ns.length : Nat))) m = some (.rng 0 (ns.length : Nat)) := upd_same
    generalize upd H m (.rng 0 (ns.length : Nat)) = H1 at Sm em
    refine ⟨_, rfl, m, ns.length, rfl, em, by omega, fun D hD => ?_⟩
    refine lc_range (lo := 0) (n := ns.length) (fun i H2 => GroP (fun H p a => Tab2 ns.length L p H a) H1 H2 D i) (GroP.nil hD) ?_ ?_
    · intro i H2 hi G
      have em2 := G.S _ _ em
      refine ⟨rfl, yesT ?_⟩
      refine ⟨_, rfl, m, ns.length, rfl, em2, by omega, fun D2 hD2 => ?_⟩
      refine lc_range (lo := 0) (n := ns.length) (fun j H3 => GroP (fun H q b => H b = some (.tup (rowB L ns.length i q ns.length))) H2 H3 D2 j) (GroP.nil hD2) ?_ ?_
      · intro j H3 hj G3
        have em3 := G3.S _ _ em2
        refine ⟨rfl, yesT ?_⟩
        refine ⟨_, rfl, m, ns.length, rfl, em3, by omega, fun D3 hD3 => ?_⟩
        refine lc_range (lo := 0) (n := ns.length) (fun l H4 => Same H3 H4 ∧ H3 D3 = none ∧ H4 D3 = some (.lst (rowB L ns.length i j l))) ⟨new_same hD3, hD3, upd_same⟩ ?_ ?_
        · rintro l H4 hl ⟨S4, n4, e4⟩
          refine ⟨rfl, yesT ?_⟩
          refine ⟨_, rfl, _, rfl, _, rfl, (by show 3 ≤ sizeLine; decide), fun z hz => ?_⟩
          have et : ([(i : Int), (j : Int), (l : Int)].map V.int) = [V.int (0 + (i : Nat)), V.int (0 + (j : Nat)), V.int (0 + (l : Nat))] := by simp
          have S5 : Same H4 (upd H4 z (.tup [V.int (0 + (i : Nat)), V.int (0 + (j : Nat)), V.int (0 + (l : Nat))])) := new_same hz
          have ez : (upd H4 z (.tup [V.int (0 + (i : Nat)), V.int (0 + (j : Nat)), V.int (0 + (l : Nat))])) z = some (.tup ([(i : Int), (j : Int), (l : Int)].map V.int)) := by rw [upd_same, et]
          generalize upd H4 z (.tup [V.int (0 + (i : Nat)), V.int (0 + (j : Nat)), V.int (0 + (l : Nat))]) = H5 at S5 ez
          have SA := ((((Sm.trans G.S).trans G3.S).trans S4).trans S5)
          refine ⟨_, rfl, in_tups (hL.keep SA) ez ⟨_, S5 _ _ e4, ?_, fun b o e => ?_, n4, ?_⟩⟩
          · unfold rowB
            rw [List.length_map, List.length_range]
            exact small1000 (by omega)
          · rw [upd_ne (ne_of_none e n4)]
            exact S5 _ _ (S4 _ _ e)
          · rw [upd_same]
            unfold rowB
            rw [List.range_succ, List.map_append]
            rfl
        · rintro H4 ⟨S4, n4, e4⟩
          refine ⟨D3, _, rfl, .inl ⟨SqL.of e4, fun z hz => ?_⟩⟩
          have S5 : Same H4 (upd H4 z (.tup (rowB L ns.length i j ns.length))) := new_same hz
          have G5 := G3.keep (S4.trans S5) fun q b e => (S4.trans S5) _ _ e
          have e5 : (upd H4 z (.tup (rowB L ns.length i j ns.length))) z = some (.tup (rowB L ns.length i j ns.length)) := upd_same
          generalize upd H4 z (.tup (rowB L ns.length i j ns.length)) = H5 at S5 G5 e5
          have eD : ∃ ys, H5 D2 = some (.lst ys) := by
            obtain ⟨_, _, qs, c, _⟩ := G5
            exact ⟨_, c⟩
          obtain ⟨ys, eD⟩ := eD
          obtain ⟨acc, q1, q2, q3⟩ := G5.app (fun H' B q b e => tup_but eD B e) e5
          exact ⟨acc, q1, by rw [q2]; exact small1000 (by omega), q3⟩
      · rintro H3 G3
        obtain ⟨S3, n3, qs, c, l3, f3⟩ := G3
        refine ⟨D2, _, rfl, .inl ⟨SqL.of c, fun z hz => ?_⟩⟩
        have S5 : Same H3 (upd H3 z (.tup (qs.map V.ref))) := new_same hz
        have t5 : Tab2 ns.length L i (upd H3 z (.tup (qs.map V.ref))) z := ⟨qs, upd_same, l3, fun q b hb => S5 _ _ (f3 q b hb)⟩
        generalize upd H3 z (.tup (qs.map V.ref)) = H5 at S5 t5
        have G5 := G.keep (S3.trans S5) fun p a e => e.keep fun b xs e => (S3.trans S5) _ _ e
        have eD : ∃ ys, H5 D = some (.lst ys) := by
          obtain ⟨_, _, qs, c, _⟩ := G5
          exact ⟨_, c⟩
        obtain ⟨ys, eD⟩ := eD
        obtain ⟨acc, q1, q2, q3⟩ := G5.app (fun H' B p a e => e.keep fun b xs e => tup_but eD B e) t5
        exact ⟨acc, q1, by rw [q2]; exact small1000 (by omega), q3⟩
    · rintro H2 G
      obtain ⟨S2, n2, ps, c, l2, f2⟩ := G
      refine ⟨D, _, rfl, .inl ⟨SqL.of c, fun z hz => ?_⟩⟩
      have S5 : Same H2 (upd H2 z (.tup (ps.map V.ref))) := new_same hz
      exact k _ z ((Sm.trans S2).trans S5) (same_free Sm (same_free S2 hz)) ⟨ps, upd_same, l2, fun p a ha => (f2 p a ha).keep fun b xs e => S5 _ _ e⟩
end
end J

set_option Elab.async false
set_option linter.all false
set_option maxRecDepth 100000
set_option maxHeartbeats 8000000
namespace J
open PySem PySem.Spec PyProof.Rows L2
/-! ### books: the fields -/
theorem nd_tb : ¬ (("ties" : Str) = "barred") := by decide +kernel
theorem nd_tl : ¬ (("ties" : Str) = "least_barred") := by decide +kernel
theorem nd_tr : ¬ (("ties" : Str) = "bar_table") := by decide +kernel
theorem nd_bl : ¬ (("barred" : Str) = "least_barred") := by decide +kernel
theorem nd_br : ¬ (("barred" : Str) = "bar_table") := by decide +kernel
theorem nd_lr : ¬ (("least_barred" : Str) = "bar_table") := by decide +kernel
def b1 (t : Addr) : List (Str × V) := putF "ties" (.ref t) []
def b2 (t b : Addr) : List (Str × V) := putF "barred" (.ref b) (b1 t)
def b3 (t b l : Addr) : List (Str × V) := putF "least_barred" (.ref l) (b2 t b)
def bf (t b l r : Addr) : List (Str × V) := putF "bar_table" (.ref r) (b3 t b l)
theorem lp {f : Str} {v : V} {fs : List (Str × V)} {n : Nat} (h : fs.length ≤ n) : (putF f v fs).length ≤ n + 1 := Nat.le_trans (length_putF _ _ _) (by omega)
theorem l1 (t : Addr) : (b1 t).length < 1000 := Nat.lt_of_le_of_lt (lp (n := 0) (Nat.le_refl _)) (by decide)
theorem l2 (t b : Addr) : (b2 t b).length < 1000 := Nat.lt_of_le_of_lt (lp (n := 1) (lp (n := 0) (Nat.le_refl _))) (by decide)
theorem l3 (t b l : Addr) : (b3 t b l).length < 1000 := Nat.lt_of_le_of_lt (lp (n := 2) (lp (n := 1) (lp (n := 0) (Nat.le_refl _)))) (by decide)
theorem b2_barred (t b : Addr) : (b2 t b).lookup ("barred" : Str) = some (.ref b) := by
  unfold b2
  rw [lookup_putF, if_pos rfl]
theorem b3_barred (t b l : Addr) : (b3 t b l).lookup ("barred" : Str) = some (.ref b) := by
  unfold b3
  rw [lookup_putF, if_neg nd_bl, b2_barred]
theorem bf_barred (t b l r : Addr) : (bf t b l r).lookup ("barred" : Str) = some (.ref b) := by
  unfold bf
  rw [lookup_putF, if_neg nd_br, b3_barred]
theorem bf_ties (t b l r : Addr) : (bf t b l r).lookup ("ties" : Str) = some (.ref t) := by
  unfold bf b3 b2 b1
  rw [lookup_putF, if_neg nd_tr, lookup_putF, if_neg nd_tl, lookup_putF, if_neg nd_tb, lookup_putF, if_pos rfl]
theorem bf_least (t b l r : Addr) : (bf t b l r).lookup ("least_barred" : Str) = some (.ref l) := by
  unfold bf b3
  rw [lookup_putF, if_neg nd_lr, lookup_putF, if_pos rfl]
theorem bf_table (t b l r : Addr) : (bf t b l r).lookup ("bar_table" : Str) = some (.ref r) := by
  unfold bf
  rw [lookup_putF, if_pos rfl]
theorem bf_no (t b l r : Addr) {m : Str} (h1 : ¬ m = "bar_table") (h2 : ¬ m = "least_barred") (h3 : ¬ m = "barred") (h4 : ¬ m = "ties") : (bf t b l r).lookup m = none := by
  unfold bf b3 b2 b1
  rw [lookup_putF, if_neg h1, lookup_putF, if_neg h2, lookup_putF, if_neg h3, lookup_putF, if_neg h4]
  rfl
def BookAt (C CB : Addr) (H : Hp) (x : Addr) (ns : List Int) (L : List (List Int)) : Prop := ∃ dx t b l r, H x = some (.ins CB dx (bf t b l r)) ∧ TiesAt C H t ns ∧ TupsAt H b L ∧ TupsAt H l (L.filter (isL ns)) ∧ TabAt ns.length L H r
theorem BookAt.keep {C CB : Addr} {H H' : Hp} {x : Addr} {ns : List Int} {L : List (List Int)} (h : BookAt C CB H x ns L) (S : Same H H') : BookAt C CB H' x ns L := by
  obtain ⟨dx, t, b, l, r, a1, a2, a3, a4, a5⟩ := h
  exact ⟨dx, t, b, l, r, S _ _ a1, a2.keep S, a3.keep S, a4.keep S, a5.keep S⟩
structure BoC (K : PySem.W.Frag) (C : Addr) : Prop where
  cl : Cls K C
  nT : NoAttr K C "ties"
  nB : NoAttr K C "barred"
  nL : NoAttr K C "least_barred"
  nR : NoAttr K C "bar_table"
structure BoX (K : PySem.W.Frag) (mg : Str → Option Value) (C : Addr) : Prop extends BoC K C where
  isc : C8.InsC K C
  mB : mg "Book" = some (.ref C)
  ni : PySem.W.kitOne K (.type "int") (.ref C) = some false
/-! ### what is no instance stays -/
def NI (H H' : Hp) : Prop := ∀ b o, (∀ C dx fs, o ≠ .ins C dx fs) → H b = some o → H' b = some o
theorem NI.of_but {x C dx : Addr} {fs : List (Str × V)} {H H' : Hp} (B : But x H H') (hx : H x = some (.ins C dx fs)) : NI H H' := fun b o ho e => B b o (fun q => by
  rw [q, hx] at e
  exact ho _ _ _ (Option.some.inj e).symm) e
theorem NI.of_same {H H' : Hp} (S : Same H H') : NI H H' := fun b o _ e => S b o e
theorem NI.trans {H H1 H2 : Hp} (a : NI H H1) (b : NI H1 H2) : NI H H2 := fun c o ho e => b c o ho (a c o ho e)
theorem NI.tup {H H' : Hp} (N : NI H H') {b : Addr} {xs : List V} (e : H b = some (.tup xs)) : H' b = some (.tup xs) := N _ _ (fun _ _ _ z => nomatch z) e
theorem NI.is {H H' : Hp} (N : NI H H') {x : V} {s : Sh} (h : Is H x s) : Is H' x s := by
  cases s with
  | sc v => exact h
  | dk => obtain ⟨a, kvs, e, q⟩ := h; exact ⟨a, kvs, e, N _ _ (fun _ _ _ z => nomatch z) q⟩
  | lst xs => obtain ⟨a, e, q⟩ := h; exact ⟨a, e, N _ _ (fun _ _ _ z => nomatch z) q⟩
  | tup xs => obtain ⟨a, e, q⟩ := h; exact ⟨a, e, N.tup q⟩
theorem NI.thr {H H' : Hp} (N : NI H H') {xs : List V} {ts : List (List Int)} (h : ThrAt H xs ts) : ThrAt H' xs ts := Paired.mapP h fun x t ⟨s, a, b, c⟩ => ⟨s, N.is a, b, c⟩
theorem NI.tups {H H' : Hp} (N : NI H H') {z : Addr} {L : List (List Int)} (h : TupsAt H z L) : TupsAt H' z L := by
  obtain ⟨ps, a, b, c⟩ := h
  exact ⟨ps, N.tup a, b, fun j x ts e1 e2 => N.tup (c j x ts e1 e2)⟩
theorem NI.tab {n : Nat} {H H' : Hp} (N : NI H H') {z : Addr} {L : List (List Int)} (h : TabAt n L H z) : TabAt n L H' z := by
  obtain ⟨ps, a, b, c⟩ := h
  exact ⟨ps, N.tup a, b, fun p x e => (c p x e).keep fun _ _ q => N.tup q⟩
theorem TiesAt.ne {C CC : Addr} {H : Hp} {x dx t : Addr} {fs : List (Str × V)} {ns : List Int} (h : TiesAt C H t ns) (hx : H x = some (.ins CC dx fs)) (hf : fs.lookup ("many" : Str) = none) : t ≠ x := by
  obtain ⟨d, tb, e, _⟩ := h
  rintro rfl
  rw [e] at hx
  have z : HO.ins C d (tf tb (ns.length : Nat)) = .ins CC dx fs := Option.some.inj hx
  injection z with _ _ z
  rw [← z, tf_many] at hf
  cases hf
theorem TiesAt.off {C x CC dx : Addr} {fs : List (Str × V)} {H H' : Hp} {t : Addr} {ns : List Int} (h : TiesAt C H t ns) (B : But x H H') (n : t ≠ x) (hx : H x = some (.ins CC dx fs)) : TiesAt C H' t ns := by
  obtain ⟨d, tb, a, b⟩ := h
  exact ⟨d, tb, B _ _ n a, (NI.of_but B hx).tup b⟩
/-! ### what a book is made of -/
def ofV : V → Int
  | .int n => n
  | _ => 0
def trs (ss : List Sh) : List (List Int) := ss.map fun s => (items s).map ofV
theorem thr_sh {ns : List Int} {s : Sh} (h : threeB ns s = true) : ∃ p q r, items s = [.int p, .int q, .int r] ∧ InT ns p ∧ InT ns q ∧ InT ns r ∧ (s.isL || s.isT) = true := by
  cases s with
  | sc u => cases h
  | dk => cases h
  | lst xs =>
    obtain ⟨p, q, r, e, ip, iq, ir⟩ := threeB_ints h
    exact ⟨p, q, r, e, ip, iq, ir, rfl⟩
  | tup xs =>
    obtain ⟨p, q, r, e, ip, iq, ir⟩ := threeB_ints h
    exact ⟨p, q, r, e, ip, iq, ir, rfl⟩
theorem thr_of {ns : List Int} {H : Hp} : ∀ {xs : List V} {ss : List Sh}, ShAll H xs ss → (∀ s ∈ ss, threeB ns s = true) → ThrAt H xs (trs ss) ∧ ∀ t ∈ trs ss, t ∈ A3 ns.length ns.length
  | _, _, .nil, _ => ⟨.nil, fun t h => by cases h⟩
  | _, s :: ss, .cons r t, h => by
    obtain ⟨i1, i2⟩ := thr_of t fun u hu => h u (List.mem_cons_of_mem _ hu)
    obtain ⟨p, q, r', e, ip, iq, ir, sq⟩ := thr_sh (h s List.mem_cons_self)
    have ee : (items s).map ofV = [p, q, r'] := by rw [e]; rfl
    refine ⟨.cons ⟨s, r.1, sq, by show items s = ((items s).map ofV).map V.int; rw [ee, e]; rfl⟩ i1, fun u hu => ?_⟩
    rcases List.mem_cons.mp hu with z | z
    · rw [z, show (fun s : Sh => (items s).map ofV) s = [p, q, r'] from ee]
      exact in_A3 ip iq ir
    · exact i2 u z
def ArgB (C CE : Addr) (w : Str) (t v : V) (H : Hp) (E : XK) (k : List Int → List (List Int) → Prop) : Prop :=
  ((∃ z xs, t = .ref z ∧ H z = some (.lst xs)) ∧ Told H CE 0 "ties" E) ∨ ∃ (x : Addr) (ns : List Int) (s : Sh) (ss : List Sh), t = .ref x ∧ TiesAt C H x ns ∧ GoodB ns ∧ Is H v s ∧ ShAll H (items s) ss ∧ ((s.isL || s.isT) = false → Told H CE 0 w E) ∧
    (∀ (j : Nat) (s' : Sh), (s.isL || s.isT) = true → ss[j]? = some s' → threeB ns s' = false → (∀ (i : Nat) (s' : Sh), i < j → ss[i]? = some s' → threeB ns s' = true) → Told H CE (j : Nat) "three" E) ∧
    ((s.isL || s.isT) = true → (∀ s' ∈ ss, threeB ns s' = true) → k ns (trs ss))
/-- what is let beside given threes -/
def lts (ns : List Int) (ts : List (List Int)) : List (List Int) := (A3 ns.length ns.length).filter fun t => !decide (t ∈ brd ns ts)
theorem lts_A3 {ns : List Int} {ts : List (List Int)} : ∀ t ∈ lts ns ts, t ∈ A3 ns.length ns.length := fun t h => (List.mem_filter.mp h).1
theorem inR_self {ns : List Int} {t : List Int} (h : t ∈ A3 ns.length ns.length) : inR ns t t = true := by
  obtain ⟨p, q, r, rfl, _⟩ := A3_in h (ns := ns) rfl
  exact decide_eq_true (by simp [six])
theorem inR_swap {ns : List Int} {t u : List Int} (g : GoodB ns) (hu : u ∈ A3 ns.length ns.length) (h : inR ns t u = true) : inR ns u t = true := by
  have ht := inR_A3 g hu h
  obtain ⟨p, q, r, rfl, ip, iq, ir⟩ := A3_in hu (ns := ns) rfl
  obtain ⟨a, b, c, rfl, ia, ib, ic⟩ := A3_in ht (ns := ns) rfl
  have h' : [a, b, c] ∈ six ns p q r := of_decide_eq_true h
  exact decide_eq_true ((six_same g ip iq ir h' [p, q, r]).mpr (by simp [six]))
theorem inR_trans {ns : List Int} {t u v : List Int} (g : GoodB ns) (hv : v ∈ A3 ns.length ns.length) (h : inR ns t u = true) (h2 : inR ns u v = true) : inR ns t v = true := by
  have hu := inR_A3 g hv h2
  obtain ⟨p, q, r, rfl, ip, iq, ir⟩ := A3_in hv (ns := ns) rfl
  obtain ⟨a, b, c, rfl, ia, ib, ic⟩ := A3_in hu (ns := ns) rfl
  have h' : [a, b, c] ∈ six ns p q r := of_decide_eq_true h2
  have h1 : t ∈ six ns a b c := of_decide_eq_true h
  exact decide_eq_true ((six_same g ip iq ir h' t).mp h1)
theorem brd_A3 {ns : List Int} {ts : List (List Int)} : ∀ t ∈ brd ns ts, t ∈ A3 ns.length ns.length := fun t h => (List.mem_filter.mp h).1
theorem brd_in {ns : List Int} {ts : List (List Int)} {t u : List Int} (g : GoodB ns) (ha : ∀ u ∈ ts, u ∈ A3 ns.length ns.length) (h : inR ns t u = true) (hu : u ∈ brd ns ts) : t ∈ brd ns ts := by
  obtain ⟨v, hv, e⟩ := (brd_mem g ha).mp hu
  exact (brd_mem g ha).mpr ⟨v, hv, inR_trans g (ha v hv) h e⟩
/-- what is closed under readings bars itself -/
theorem brd_closed {ns : List Int} {p : List Int → Bool} (g : GoodB ns) (h : ∀ t u, u ∈ A3 ns.length ns.length → inR ns t u = true → p u = true → p t = true) : brd ns ((A3 ns.length ns.length).filter p) = (A3 ns.length ns.length).filter p := by
  refine (brd_of g (fun u hu => (List.mem_filter.mp hu).1) ((A3_asc _ g.hi).sublist List.filter_sublist) fun t => ?_).symm
  constructor
  · intro ht
    exact ⟨t, ht, inR_self (List.mem_filter.mp ht).1⟩
  · rintro ⟨u, hu, e⟩
    obtain ⟨h1, h2⟩ := List.mem_filter.mp hu
    exact List.mem_filter.mpr ⟨inR_A3 g h1 e, h t u h1 e h2⟩
theorem brd_lts {ns : List Int} {ts : List (List Int)} (g : GoodB ns) (ha : ∀ u ∈ ts, u ∈ A3 ns.length ns.length) : brd ns (lts ns ts) = lts ns ts := by
  refine brd_closed g fun t u hu e h => ?_
  have h' : ¬ u ∈ brd ns ts := by simpa using h
  have : ¬ t ∈ brd ns ts := fun z => h' (brd_in g ha (inR_swap g hu e) z)
  simp [this]
theorem brd_brd {ns : List Int} {ts : List (List Int)} (g : GoodB ns) (ha : ∀ u ∈ ts, u ∈ A3 ns.length ns.length) : brd ns (brd ns ts) = brd ns ts := by
  refine brd_closed g fun t u hu e h => ?_
  rw [List.any_eq_true] at h ⊢
  obtain ⟨v, hv, e2⟩ := h
  exact ⟨v, hv, inR_trans g (ha v hv) e e2⟩
end J

set_option Elab.async false
set_option linter.all false
set_option maxRecDepth 100000
set_option maxHeartbeats 8000000
namespace J
open PySem PySem.Spec PyProof.Rows L2
/-! ### the default () lies in the written part -/
def KT (K : PySem.W.Frag) (a : Addr) : Prop := ∃ (o : Obj) (its : Array Value) (n : Nat), K.lookup a = some o ∧ o.cls = .type "tuple" ∧ o.data = .seq its n ∧ its.size ≤ sizeLine ∧ Vals [] its.toList
theorem KT.sq {K : PySem.W.Frag} {a : Addr} (h : KT K a) (H : Hp) : SqT K H a [] := .inr h
theorem isi_seqK {K : PySem.W.Frag} {H : Hp} {a : Addr} {Q : VK} (h : KT K a) (k : ∀ H', Same H H' → Q (.bl true) H') : 2 ≤ sizeLine ∧ ∀ p, H p = none → rIsiT K [.ref a, .ref p] (upd H p (.tup [.ty "list", .ty "tuple"])) Q := by
  obtain ⟨o, its, n, lk, hc, _⟩ := h
  exact ⟨by decide, fun p hp => ⟨_, _, _, _, _, _, rfl, upd_same, .cons (.ty "list") (.cons (.ty "tuple") .nil), .kTuple lk hc, kit_seq kt_tuple_list kt_tuple_tuple, k _ (new_same hp)⟩⟩
def spSeqK (K : PySem.W.Frag) : Sp := fun vs H Q _ => ∃ a : Addr, vs = [.ref a] ∧ KT K a ∧ ∀ H', Same H H' → Q (.bl true) H'
def spChkK (K : PySem.W.Frag) (C : Addr) : Sp := fun vs H Q _ => ∃ (x a : Addr) (ns : List Int) (u : Str), vs = [.ref x, .ref a, .str u] ∧ TiesAt C H x ns ∧ KT K a ∧ ∀ H', Same H H' → Q .non H'
def spWithK (K : PySem.W.Frag) (C : Addr) : Sp := fun vs H Q _ => ∃ (x a : Addr), vs = [.ref x, .ref a] ∧ KT K a ∧ ∀ (H' : Hp) (z : Addr), Same H H' → H z = none → TupsAt H' z [] → Q (.ref z) H'
abbrev s_Book_init : Stmt := inClass (top 21) 0
theorem sc_Book_init : FnScope ["self", "ties", "barred", "three"] ["self", "ties", "barred"] (defScope s_Book_init) := ⟨rfl, rfl, rfl, by decide +kernel, rfl, by decide +kernel, by decide +kernel⟩
def spBI (K : PySem.W.Frag) (C CB CE : Addr) : Sp := fun vs H Q E => ∃ (x dx : Addr) (t v : V), vs = [.ref x, t, v] ∧ H x = some (.ins CB dx []) ∧
  (ArgB C CE "barred" t v H E (fun ns ts => ∀ H', But x H H' → BookAt C CB H' x ns (brd ns ts) → Q .non H') ∨
    ∃ (tt a : Addr) (ns : List Int), t = .ref tt ∧ v = .ref a ∧ TiesAt C H tt ns ∧ GoodB ns ∧ KT K a ∧ ∀ H', But x H H' → BookAt C CB H' x ns [] → Q .non H')
section
variable {P : Program} {w : World} {K : PySem.W.Frag} {mg : Str → Option Value} {base : Heap}
theorem ok_is_sequenceK {f : Addr} {fd : FuncData} (F : Fun K "is_sequence" "is_sequence" s_is_sequence f fd) (ns : mg "isinstance" = none) (nl : mg "list" = none) (nt : mg "tuple" = none) : FnOk P w K mg base CX0 1 f fd ["thing"] (spSeqK K) := by
  refine F.ok sc_is_sequence (fun vs H Q E h => ?_) (fun cdv A outer s H vs Q E hr h => ?_)
  · obtain ⟨a, rfl, _⟩ := h
    rfl
  · obtain ⟨a, rfl, ha, k⟩ := h
    refine ⟨_, (pss_one 
  (ps_ret (pe_callB call_isiT (by rfl) ns (by decide +kernel) (pa_cons (pv 0) (pa_cons (pe_tup (pa_cons (pe_bltn (by rfl) nl (by decide +kernel) (v := .ty "list") rfl) (pa_cons (pe_bltn (by rfl) nt (by decide +kernel) (v := .ty "tuple") rfl) pa_nil))) pa_nil))))), ?_⟩
    exact ⟨_, rfl, isi_seqK ha k⟩
theorem ok_check_threesK {f C CB fS fH fI : Addr} {fd fdS fdH fdI : FuncData} (F : Fun K "_check_threes" "_check_threes" s_check_threes f fd) (T : TiX K mg C) (nis : mg "isinstance" = none) (ne : mg "enumerate" = none)
    (GS : Cal P w K mg base CX0 1 "is_sequence" fS fdS ["thing"] (spSeqK K)) (GI : Cal P w K mg base CX0 3 "is_three" fH fdH ["ties", "thing"] (spThree C)) (GB : Ex2 P w K mg base "BadBook" "index" "what" CB fI fdI ["self", "index", "what"]) :
    FnOk P w K mg base (L2.CX P w) 4 f fd ["ties", "threes", "word"] (spChkK K C) := by
  refine F.okX sc_check_threes (fun vs H Q E h => ?_) (fun cdv A outer s H vs Q E hr h => ?_)
  · obtain ⟨x, a, ns, u, rfl, _⟩ := h
    rfl
  · obtain ⟨x, a, ns, u, rfl, hT, ha, k⟩ := h
    have hr2 : Room 2 _ := hr.mono (by decide)
    obtain ⟨dx, tt, hx, htt⟩ := id hT
    refine ⟨_, (pss_cons 
  (ps_if (pt_not (pt_val (pe_callB call_isi (by rfl) nis (by decide +kernel) (pa_cons (pv 0) (pa_cons (pe_glob (v := .ref C) rfl T.mT rfl) pa_nil))))) (pss_one (ps_raise rfl (takes_of rfl rfl rfl rfl) (pmk_oex GB.o GB.i GB.t GB.F hr2 GB.b .nil pass0 rfl GB.m (pa_cons pe_int (pa_cons pe_str pa_nil))))) pss_nil) (pss_cons 
  (ps_if (pt_not (pt_val (pcal GS hr pass0 (pa_cons (pv 1) pa_nil)))) (pss_one (ps_raise rfl (takes_of rfl rfl rfl rfl) (pmk_oex GB.o GB.i GB.t GB.F hr2 GB.b .nil pass0 rfl GB.m (pa_cons pe_int (pa_cons (pv 2) pa_nil))))) pss_nil) (pss_one 
  (ps_for (passes_of rfl) rfl (pi_enumT (by rfl) ne (pa_cons (pv 1) pa_nil)) (pg_tup (by rfl) (pgs_cons (pg_name (i := 3) sc_check_threes.nd rfl (Or.inl rfl)) (pgs_cons (pg_name (i := 4) sc_check_threes.nd rfl (Or.inl rfl)) pgs_nil))) (pss_one 
    (ps_if (pt_not (pt_val (pcal GI hr pass0 (pa_cons (pv 0) (pa_cons (pv 4) pa_nil))))) (pss_one (ps_raise rfl (takes_of rfl rfl rfl rfl) (pmk_oex GB.o GB.i GB.t GB.F hr2 GB.b .nil pass0 rfl GB.m (pa_cons (pv 3) (pa_cons pe_str pa_nil))))) pss_nil)))))), ?_⟩
    refine ⟨_, rfl, _, _, _, _, true, rfl, .own C, .base (.ins hx T.cl T.isc.ha T.isc.hn T.isc.htk T.isc.hm), T.isc.me, _, rfl, iteF ?_⟩
    refine ⟨_, rfl, a, rfl, ha, fun H1 S1 => ⟨_, rfl, iteF ?_⟩⟩
    refine ⟨_, rfl, a, [], rfl, ha.sq _, for_enumT (K := K) (a := a) (xs := []) (fun i σ H' => ∃ v3 v4 : Option V, σ = [some (.ref x), some (.ref a), some (.str u), v3, v4] ∧ Same H1 H')
      ⟨none, none, rfl, Same.refl _⟩ (fun i σ H' _ _ => ha.sq _) ?_ ?_⟩
    · rintro i y σ H' T0 hy
      simp at hy
    · rintro σ H' ⟨v3, v4, rfl, S3⟩
      exact k _ (S1.trans S3)
theorem ok_with_readingsK {f C CT fR : Addr} {fd fdR : FuncData} (F : Fun K "_with_readings" "_with_readings" s_with_readings f fd) (nt : mg "tuple" = none) (nso : mg "sorted" = none)
    (GR : Cal P w K mg base (L2.CX P w) 4 "readings_of" fR fdR ["ties", "three"] (spReadings C CT)) : FnOk P w K mg base CX0 5 f fd ["ties", "threes"] (spWithK K C) := by
  refine F.ok sc_with_readings (fun vs H Q E h => ?_) (fun cdv A outer s H vs Q E hr h => ?_)
  · obtain ⟨x, a, rfl, _⟩ := h
    rfl
  · obtain ⟨x, a, rfl, ha, k⟩ := h
    refine ⟨_, (pss_cons 
  (ps_set (i := 2) sc_with_readings.nd rfl (Or.inl rfl) pe_dnewT) (pss_cons 
  (ps_for PassesOwn.never rfl (pi_tup (pv 1)) (pg_name (i := 3) sc_with_readings.nd rfl (Or.inl rfl)) (pss_one 
    (ps_for PassesOwn.never rfl (pi_tup (pcal GR hr passL (pa_cons (pv 0) (pa_cons (pv 3) pa_nil)))) (pg_name (i := 4) sc_with_readings.nd rfl (Or.inl rfl)) (pss_one 
      (ps_asg pe_bl (pg_sub (pv 2) (pv 4) (set_dict (un1 hr)))))))) (pss_one 
  (ps_ret (pe_callTy (T := "tuple") (r := rTup K) call_tuple_of (by rfl) nt (by decide +kernel) (pa_cons (pe_callB (r := rSortD 3 4) (cr_sortedD rfl (by decide)) (by rfl) nso (by decide +kernel) (pa_cons (pv 2) pa_nil)) pa_nil)))))), ?_⟩
    refine fun D hD => ?_
    refine ⟨_, rfl, a, rfl, ⟨[], ha.sq _⟩, for_tup (K := K) (a := a) (xs := []) (fun i σ H' => ∃ (v3 v4 : Option V), σ = [some (.ref x), some (.ref a), some (.ref D), v3, v4] ∧ H' = upd H D (.dT []))
        ⟨none, none, rfl, rfl⟩ (fun i σ H' _ _ => ha.sq _) ?_ ?_⟩
    · rintro i y σ H2 hy
      simp at hy
    · rintro σ H2 ⟨v3, v4, rfl, rfl⟩
      have S2 : Same H (upd H D (.dT [])) := new_same hD
      refine ⟨_, rfl, D, [], [], rfl, upd_same, rfl, (fun t ht => by cases ht), fun L p pm ndL pw hL np => ?_⟩
      have e : L = [] := by
        have := pm.length_eq
        rw [List.length_map] at this
        exact List.eq_nil_of_length_eq_zero this
      subst e
      refine ⟨p, [], rfl, .inl ⟨SqL.of upd_same, fun z hz => ?_⟩⟩
      have S3 : Same (upd H D (.dT [])) (upd (upd H D (.dT [])) p (.lst [])) := new_same np
      exact k _ z ((S2.trans S3).trans (new_same hz)) (same_free S2 (same_free S3 hz)) ⟨[], upd_same, rfl, fun j a t q => by simp at q⟩
theorem ok_Book_init {f C CB CE CT fK fW fL fT fK' fW' : Addr} {fd fdK fdW fdL fdT fdK' fdW' : FuncData} {dvs : List V} (F : FunD K "__init__" "Book.__init__" (defArgs s_Book_init) (defBody s_Book_init) (defScope s_Book_init) dvs [] f fd) (c : BoC K CB) (nt : mg "tuple" = none)
    (GC : Cal P w K mg base (L2.CX P w) 4 "_check_threes" fK fdK ["ties", "threes", "word"] (spChk C CE)) (GW : Cal P w K mg base CX0 5 "_with_readings" fW fdW ["ties", "threes"] (spWith C)) (GL : Cal P w K mg base (L2.CX P w) 5 "least_reading" fL fdL ["ties", "three"] (spLeast C CT)) (GT : Cal P w K mg base CX0 1 "_bar_table" fT fdT ["ties", "barred"] (spTab C))
    (GCK : Cal P w K mg base (L2.CX P w) 4 "_check_threes" fK' fdK' ["ties", "threes", "word"] (spChkK K C)) (GWK : Cal P w K mg base CX0 5 "_with_readings" fW' fdW' ["ties", "threes"] (spWithK K C)) : FnOk P w K mg base (L2.CX P w) 6 f fd ["self", "ties", "barred"] (spBI K C CB CE) := by
  refine F.ok sc_Book_init (fun vs H Q E h => ?_) (fun cdv A outer s H vs Q E hr h => ?_)
  · obtain ⟨x, dx, t, v, rfl, _⟩ := h
    rfl
  · obtain ⟨x, dx, t, v, rfl, hx, h⟩ := h
    have nmany : (([] : List (Str × V)).lookup ("many" : Str)) = none := rfl
    rcases h with (⟨hz, k⟩ | ⟨tt, ns, sh, ss, rfl, hT, gb, hv, hs, k1, k2, k3⟩) | ⟨tt, a, ns, rfl, rfl, hT, gb, ha, k3⟩
    · refine ⟨_, (pss_cons (ps_expr (pcal GC hr (passes_call (takes_of rfl rfl rfl rfl) (fun _ _ _ _ h => h)) (pa_cons (pv 1) (pa_cons (pv 2) (pa_cons pe_str pa_nil))))) (pss_cons 
 (ps_fld (pv 0) (pv 1) rfl) (pss_cons 
 (ps_fld (pv 0) (pcal GW hr pass0 (pa_cons (pv 1) (pa_cons (pv 2) pa_nil))) rfl) (pss_cons 
 (ps_fld (pv 0) (pe_callTy (T := "tuple") (r := rTup K) call_tuple_of (by rfl) nt (by decide +kernel) (pa_cons (pe_lc (own := [("three", 3)]) (g := gName 3) (by rfl) sc_Book_init.nd (pi_tup (pe_fld (pv 0) rfl)) (blkOk_by (own := [("three", 3)]) (N := ["self", "ties", "barred", "three"]) (sc := defScope s_Book_init) (by decide +kernel)) (fun _ _ _ _ _ => pg_name (i := 3) sc_Book_init.nd rfl (Or.inl rfl)) (fun _ _ _ _ _ => pts_one (pt_cmpR (r := rEqD K) (op_eqD hr.units) (pv 3) (pcal GL hr passL (pa_cons (pv 1) (pa_cons (pv 3) pa_nil))) (nomark _))) (fun _ _ _ _ _ => (pv 3))) pa_nil)) rfl) (pss_one 
 (ps_fld (pv 0) (pcal GT hr pass0 (pa_cons (pv 1) (pa_cons (pe_fld (pv 0) rfl) pa_nil))) rfl)))))), ?_⟩
      exact ⟨_, rfl, _, rfl, t, v, "barred", rfl, .inl ⟨hz, k⟩⟩
    · refine ⟨_, (pss_cons (ps_expr (pcal GC hr (passes_call (takes_of rfl rfl rfl rfl) (fun _ _ _ _ h => h)) (pa_cons (pv 1) (pa_cons (pv 2) (pa_cons pe_str pa_nil))))) (pss_cons 
 (ps_fld (pv 0) (pv 1) rfl) (pss_cons 
 (ps_fld (pv 0) (pcal GW hr pass0 (pa_cons (pv 1) (pa_cons (pv 2) pa_nil))) rfl) (pss_cons 
 (ps_fld (pv 0) (pe_callTy (T := "tuple") (r := rTup K) call_tuple_of (by rfl) nt (by decide +kernel) (pa_cons (pe_lc (own := [("three", 3)]) (g := gName 3) (by rfl) sc_Book_init.nd (pi_tup (pe_fld (pv 0) rfl)) (blkOk_by (own := [("three", 3)]) (N := ["self", "ties", "barred", "three"]) (sc := defScope s_Book_init) (by decide +kernel)) (fun _ _ _ _ _ => pg_name (i := 3) sc_Book_init.nd rfl (Or.inl rfl)) (fun _ _ _ _ _ => pts_one (pt_cmpR (r := rEqD K) (op_eqD hr.units) (pv 3) (pcal GL hr passL (pa_cons (pv 1) (pa_cons (pv 3) pa_nil))) (nomark _))) (fun _ _ _ _ _ => (pv 3))) pa_nil)) rfl) (pss_one 
 (ps_fld (pv 0) (pcal GT hr pass0 (pa_cons (pv 1) (pa_cons (pe_fld (pv 0) rfl) pa_nil))) rfl)))))), ?_⟩
      refine ⟨_, rfl, _, rfl, _, v, "barred", rfl, .inr ⟨tt, ns, sh, ss, rfl, hT, hv, hs, k1, k2, fun sq hb H1 S1 => ?_⟩⟩
      obtain ⟨thr, hA⟩ := thr_of hs hb
      have k : ∀ H', But x H H' → BookAt C CB H' x ns (brd ns (trs ss)) → Q .non H' := k3 sq hb
      have hx1 := S1 _ _ hx
      refine ⟨_, rfl, _, rfl, x, CB, dx, [], rfl, hx1, c.cl, c.nT, (by show 0 < 1000; decide), ?_⟩
      have hx2 : (upd H1 x (.ins CB dx (b1 tt))) x = some (.ins CB dx (b1 tt)) := upd_same
      have B2 : But x H1 (upd H1 x (.ins CB dx (b1 tt))) := But.put
      have nx := hT.ne hx nmany
      have hT2 := (hT.keep S1).off B2 nx hx1
      have N2 := NI.of_but B2 hx1
      have hv2 := N2.is (hv.keep S1)
      have thr2 := N2.thr (thr.keep S1)
      show tSeq _ _ _ _ (upd H1 x (.ins CB dx (b1 tt)))
      have BA : But x H (upd H1 x (.ins CB dx (b1 tt))) := (But.same S1).trans B2
      generalize upd H1 x (.ins CB dx (b1 tt)) = H2 at hx2 hT2 hv2 thr2 BA
      refine ⟨_, rfl, _, rfl, tt, ns, v, sh, trs ss, rfl, hT2, gb, hv2, sq, thr2, hA, fun H3 z S3 nz TZ => ?_⟩
      have hx3 := S3 _ _ hx2
      refine ⟨_, rfl, x, CB, dx, _, rfl, hx3, c.cl, c.nB, l1 tt, ?_⟩
      have hx4 : (upd H3 x (.ins CB dx (b2 tt z))) x = some (.ins CB dx (b2 tt z)) := upd_same
      have B4 : But x H3 (upd H3 x (.ins CB dx (b2 tt z))) := But.put
      have hT4 := (hT2.keep S3).off B4 nx hx3
      have TZ4 := (NI.of_but B4 hx3).tups TZ
      have BA4 := (BA.trans (But.same S3)).trans B4
      show tSeq _ _ _ _ (upd H3 x (.ins CB dx (b2 tt z)))
      generalize upd H3 x (.ins CB dx (b2 tt z)) = H4 at hx4 hT4 TZ4 BA4
      have hLA := brd_A3 (ns := ns) (ts := trs ss)
      have l64 : (brd ns (trs ss)).length ≤ 64 := Nat.le_trans (List.length_filter_le _ _) (A3_len _ gb.hi)
      generalize hL : brd ns (trs ss) = L at TZ4 hLA l64 k
      obtain ⟨ps, e1, e2, e3⟩ := id TZ4
      refine ⟨_, rfl, x, CB, dx, _, _, rfl, hx4, c.cl, c.nB, b2_barred _ _, z, rfl, ⟨_, SqT.of e1⟩, fun D hD => ?_⟩
      refine lc_tup (K := K) (a := z) (xs := ps.map V.ref) (fun i H5 => Gro H4 H5 D ((L.take i).filter (isL ns))) (Gro.nil hD) (fun i H5 _ G => SqT.of (G.S _ _ e1)) ?_ ?_
      · rintro i y H5 hy G
        rw [List.getElem?_map] at hy
        cases ea : ps[i]? with
        | none =>
          rw [ea] at hy
          cases hy
        | some b =>
          rw [ea] at hy
          obtain rfl : V.ref b = y := Option.some.inj hy
          have li := (List.getElem?_eq_some_iff.mp ea).1
          have el : L[i]? = some L[i] := List.getElem?_eq_getElem (by omega)
          generalize L[i] = u at el
          obtain ⟨p, q, r, rfl, ip, iq, ir⟩ := A3_in (hLA u (List.mem_of_getElem? el)) (ns := ns) rfl
          have hb := G.S _ _ (e3 i b _ ea el)
          have tf := take_filter (p := isL ns) el
          refine ⟨rfl, ?_⟩
          refine ⟨_, rfl, _, rfl, _, rfl, tt, ns, .ref b, .tup ([p, q, r].map V.int), rfl, hT4.keep G.S, gb, ⟨b, rfl, hb⟩, ints_known _, fun e => ?_, fun p' q' r' e ip' iq' ir' H6 z' t' L' S6 hz' R => ?_⟩
          · have : threeB ns (.tup ([p, q, r].map V.int)) = true := three_yes (s := .tup ([p, q, r].map V.int)) rfl rfl ip iq ir
            rw [this] at e
            cases e
          · obtain ⟨rfl, rfl, rfl⟩ := ints3 (s := .tup ([p, q, r].map V.int)) rfl e
            refine ⟨_, _, .tup (SqT.of (S6 _ _ hb)) (dp_ints _), .tup (SqT.of hz') (dp_ints _), shaped_ti _, shaped_ti _, _, rfl, ?_⟩
            rw [eqv_ti, isL_iff R]
            have G6 := G.keep S6
            cases hc : isL ns [p', q', r'] with
            | true =>
              obtain ⟨acc, q1, q2, q3⟩ := G6.app (S6 _ _ hb)
              refine iteT ⟨_, rfl, acc, q1, ?_, ?_⟩
              · have := List.length_filter_le (isL ns) (L.take i)
                rw [List.length_take] at this
                rw [q2]
                exact small1000 (by omega)
              · rw [tf, if_pos hc]
                exact q3
            | false =>
              refine iteF ?_
              rw [tf, if_neg (by rw [hc]; decide), List.append_nil]
              exact G6
      · rintro H5 G
        rw [List.length_map, e2, List.take_length] at G
        obtain ⟨qs, d1, d2, d3⟩ := G.d
        refine ⟨D, _, rfl, .inl ⟨SqL.of d1, fun l hl => ?_⟩⟩
        have TL := G.tup d1 hl
        have S6 : Same H5 (upd H5 l (.tup (qs.map V.ref))) := new_same hl
        generalize upd H5 l (.tup (qs.map V.ref)) = H6 at TL S6
        have SA := G.S.trans S6
        have hx6 := SA _ _ hx4
        refine ⟨_, rfl, x, CB, dx, _, rfl, hx6, c.cl, c.nL, l2 tt z, ?_⟩
        have hx7 : (upd H6 x (.ins CB dx (b3 tt z l))) x = some (.ins CB dx (b3 tt z l)) := upd_same
        have B7 : But x H6 (upd H6 x (.ins CB dx (b3 tt z l))) := But.put
        have hT7 := (hT4.keep SA).off B7 nx hx6
        have TZ7 := (NI.of_but B7 hx6).tups (TZ4.keep SA)
        have TL7 := (NI.of_but B7 hx6).tups TL
        have BA7 := (BA4.trans (But.same SA)).trans B7
        show Ends.nx _ _ (upd H6 x (.ins CB dx (b3 tt z l)))
        generalize upd H6 x (.ins CB dx (b3 tt z l)) = H7 at hx7 hT7 TZ7 TL7 BA7
        refine ⟨_, rfl, _, rfl, x, CB, dx, _, _, rfl, hx7, c.cl, c.nB, b3_barred _ _ _, tt, z, ns, L, rfl, hT7, gb, TZ7, fun H8 r S8 nr TR => ?_⟩
        have hx8 := S8 _ _ hx7
        refine ⟨_, rfl, x, CB, dx, _, rfl, hx8, c.cl, c.nR, l3 tt z l, ?_⟩
        have B9 : But x H8 (upd H8 x (.ins CB dx (bf tt z l r))) := But.put
        have N9 := NI.of_but B9 hx8
        exact k _ ((BA7.trans (But.same S8)).trans B9) ⟨dx, tt, z, l, r, upd_same, (hT7.keep S8).off B9 nx hx8, N9.tups (TZ7.keep S8), N9.tups (TL7.keep S8), N9.tab TR⟩
    · refine ⟨_, (pss_cons (ps_expr (pcal GCK hr (passes_call (takes_of rfl rfl rfl rfl) (fun _ _ _ _ h => h)) (pa_cons (pv 1) (pa_cons (pv 2) (pa_cons pe_str pa_nil))))) (pss_cons 
 (ps_fld (pv 0) (pv 1) rfl) (pss_cons 
 (ps_fld (pv 0) (pcal GWK hr pass0 (pa_cons (pv 1) (pa_cons (pv 2) pa_nil))) rfl) (pss_cons 
 (ps_fld (pv 0) (pe_callTy (T := "tuple") (r := rTup K) call_tuple_of (by rfl) nt (by decide +kernel) (pa_cons (pe_lc (own := [("three", 3)]) (g := gName 3) (by rfl) sc_Book_init.nd (pi_tup (pe_fld (pv 0) rfl)) (blkOk_by (own := [("three", 3)]) (N := ["self", "ties", "barred", "three"]) (sc := defScope s_Book_init) (by decide +kernel)) (fun _ _ _ _ _ => pg_name (i := 3) sc_Book_init.nd rfl (Or.inl rfl)) (fun _ _ _ _ _ => pts_one (pt_cmpR (r := rEqD K) (op_eqD hr.units) (pv 3) (pcal GL hr passL (pa_cons (pv 1) (pa_cons (pv 3) pa_nil))) (nomark _))) (fun _ _ _ _ _ => (pv 3))) pa_nil)) rfl) (pss_one 
 (ps_fld (pv 0) (pcal GT hr pass0 (pa_cons (pv 1) (pa_cons (pe_fld (pv 0) rfl) pa_nil))) rfl)))))), ?_⟩
      refine ⟨_, rfl, _, rfl, tt, a, ns, "barred", rfl, hT, ha, fun H1 S1 => ?_⟩
      have k : ∀ H', But x H H' → BookAt C CB H' x ns (brd ns []) → Q .non H' := fun H' B Bk => k3 H' B (by rw [show brd ns [] = [] from List.filter_eq_nil_iff.mpr (by simp)] at Bk; exact Bk)
      have hA : ∀ t ∈ ([] : List (List Int)), t ∈ A3 ns.length ns.length := fun t ht => by cases ht
      have hx1 := S1 _ _ hx
      refine ⟨_, rfl, _, rfl, x, CB, dx, [], rfl, hx1, c.cl, c.nT, (by show 0 < 1000; decide), ?_⟩
      have hx2 : (upd H1 x (.ins CB dx (b1 tt))) x = some (.ins CB dx (b1 tt)) := upd_same
      have B2 : But x H1 (upd H1 x (.ins CB dx (b1 tt))) := But.put
      have nx := hT.ne hx nmany
      have hT2 := (hT.keep S1).off B2 nx hx1
      show tSeq _ _ _ _ (upd H1 x (.ins CB dx (b1 tt)))
      have BA : But x H (upd H1 x (.ins CB dx (b1 tt))) := (But.same S1).trans B2
      generalize upd H1 x (.ins CB dx (b1 tt)) = H2 at hx2 hT2 BA
      refine ⟨_, rfl, _, rfl, tt, a, rfl, ha, fun H3 z S3 nz TZ => ?_⟩
      rw [show ([] : List (List Int)) = brd ns [] from (List.filter_eq_nil_iff.mpr (by simp)).symm] at TZ
      have hx3 := S3 _ _ hx2
      refine ⟨_, rfl, x, CB, dx, _, rfl, hx3, c.cl, c.nB, l1 tt, ?_⟩
      have hx4 : (upd H3 x (.ins CB dx (b2 tt z))) x = some (.ins CB dx (b2 tt z)) := upd_same
      have B4 : But x H3 (upd H3 x (.ins CB dx (b2 tt z))) := But.put
      have hT4 := (hT2.keep S3).off B4 nx hx3
      have TZ4 := (NI.of_but B4 hx3).tups TZ
      have BA4 := (BA.trans (But.same S3)).trans B4
      show tSeq _ _ _ _ (upd H3 x (.ins CB dx (b2 tt z)))
      generalize upd H3 x (.ins CB dx (b2 tt z)) = H4 at hx4 hT4 TZ4 BA4
      have hLA := brd_A3 (ns := ns) (ts := [])
      have l64 : (brd ns ([])).length ≤ 64 := Nat.le_trans (List.length_filter_le _ _) (A3_len _ gb.hi)
      generalize hL : brd ns ([]) = L at TZ4 hLA l64 k
      obtain ⟨ps, e1, e2, e3⟩ := id TZ4
      refine ⟨_, rfl, x, CB, dx, _, _, rfl, hx4, c.cl, c.nB, b2_barred _ _, z, rfl, ⟨_, SqT.of e1⟩, fun D hD => ?_⟩
      refine lc_tup (K := K) (a := z) (xs := ps.map V.ref) (fun i H5 => Gro H4 H5 D ((L.take i).filter (isL ns))) (Gro.nil hD) (fun i H5 _ G => SqT.of (G.S _ _ e1)) ?_ ?_
      · rintro i y H5 hy G
        rw [List.getElem?_map] at hy
        cases ea : ps[i]? with
        | none =>
          rw [ea] at hy
          cases hy
        | some b =>
          rw [ea] at hy
          obtain rfl : V.ref b = y := Option.some.inj hy
          have li := (List.getElem?_eq_some_iff.mp ea).1
          have el : L[i]? = some L[i] := List.getElem?_eq_getElem (by omega)
          generalize L[i] = u at el
          obtain ⟨p, q, r, rfl, ip, iq, ir⟩ := A3_in (hLA u (List.mem_of_getElem? el)) (ns := ns) rfl
          have hb := G.S _ _ (e3 i b _ ea el)
          have tf := take_filter (p := isL ns) el
          refine ⟨rfl, ?_⟩
          refine ⟨_, rfl, _, rfl, _, rfl, tt, ns, .ref b, .tup ([p, q, r].map V.int), rfl, hT4.keep G.S, gb, ⟨b, rfl, hb⟩, ints_known _, fun e => ?_, fun p' q' r' e ip' iq' ir' H6 z' t' L' S6 hz' R => ?_⟩
          · have : threeB ns (.tup ([p, q, r].map V.int)) = true := three_yes (s := .tup ([p, q, r].map V.int)) rfl rfl ip iq ir
            rw [this] at e
            cases e
          · obtain ⟨rfl, rfl, rfl⟩ := ints3 (s := .tup ([p, q, r].map V.int)) rfl e
            refine ⟨_, _, .tup (SqT.of (S6 _ _ hb)) (dp_ints _), .tup (SqT.of hz') (dp_ints _), shaped_ti _, shaped_ti _, _, rfl, ?_⟩
            rw [eqv_ti, isL_iff R]
            have G6 := G.keep S6
            cases hc : isL ns [p', q', r'] with
            | true =>
              obtain ⟨acc, q1, q2, q3⟩ := G6.app (S6 _ _ hb)
              refine iteT ⟨_, rfl, acc, q1, ?_, ?_⟩
              · have := List.length_filter_le (isL ns) (L.take i)
                rw [List.length_take] at this
                rw [q2]
                exact small1000 (by omega)
              · rw [tf, if_pos hc]
                exact q3
            | false =>
              refine iteF ?_
              rw [tf, if_neg (by rw [hc]; decide), List.append_nil]
              exact G6
      · rintro H5 G
        rw [List.length_map, e2, List.take_length] at G
        obtain ⟨qs, d1, d2, d3⟩ := G.d
        refine ⟨D, _, rfl, .inl ⟨SqL.of d1, fun l hl => ?_⟩⟩
        have TL := G.tup d1 hl
        have S6 : Same H5 (upd H5 l (.tup (qs.map V.ref))) := new_same hl
        generalize upd H5 l (.tup (qs.map V.ref)) = H6 at TL S6
        have SA := G.S.trans S6
        have hx6 := SA _ _ hx4
        refine ⟨_, rfl, x, CB, dx, _, rfl, hx6, c.cl, c.nL, l2 tt z, ?_⟩
        have hx7 : (upd H6 x (.ins CB dx (b3 tt z l))) x = some (.ins CB dx (b3 tt z l)) := upd_same
        have B7 : But x H6 (upd H6 x (.ins CB dx (b3 tt z l))) := But.put
        have hT7 := (hT4.keep SA).off B7 nx hx6
        have TZ7 := (NI.of_but B7 hx6).tups (TZ4.keep SA)
        have TL7 := (NI.of_but B7 hx6).tups TL
        have BA7 := (BA4.trans (But.same SA)).trans B7
        show Ends.nx _ _ (upd H6 x (.ins CB dx (b3 tt z l)))
        generalize upd H6 x (.ins CB dx (b3 tt z l)) = H7 at hx7 hT7 TZ7 TL7 BA7
        refine ⟨_, rfl, _, rfl, x, CB, dx, _, _, rfl, hx7, c.cl, c.nB, b3_barred _ _ _, tt, z, ns, L, rfl, hT7, gb, TZ7, fun H8 r S8 nr TR => ?_⟩
        have hx8 := S8 _ _ hx7
        refine ⟨_, rfl, x, CB, dx, _, rfl, hx8, c.cl, c.nR, l3 tt z l, ?_⟩
        have B9 : But x H8 (upd H8 x (.ins CB dx (bf tt z l r))) := But.put
        have N9 := NI.of_but B9 hx8
        exact k _ ((BA7.trans (But.same S8)).trans B9) ⟨dx, tt, z, l, r, upd_same, (hT7.keep S8).off B9 nx hx8, N9.tups (TZ7.keep S8), N9.tups (TL7.keep S8), N9.tab TR⟩
end
end J

set_option Elab.async false
set_option linter.all false
set_option maxRecDepth 100000
set_option maxHeartbeats 8000000
namespace L2
open PySem PySem.Spec PyProof.Rows
/-! ### e.m(..), e a class, m a staticmethod of it -/
structure CSta (K : PySem.W.Frag) (C : Addr) (mc : Value) (m : Str) (p g : Addr) : Prop where
  at_ : PySem.W.findCls K (.ref C) mc m = some (.get (.builtin "staticmethod.__get__") (.ref p) .none (.ref C))
  rc : ∃ rest, PySem.W.recIn K p "staticmethod" = some (.ref g :: rest)
  kp : PySem.W.keepIn K (.ref g) = true
def tSta (C : Addr) (sp : Sp) (E : XK) (ta : TE) (t : TA) : TE := fun σ H Q => ta σ H fun x H1 => x = .ref C ∧ t σ H1 fun vs H2 => sp vs H2 Q E
section
variable {X : Cx} {CX : CXT} {k : Nat} {C p g : Addr} {mc : Value} {fd : FuncData} {ps : List Str} {sp : Sp} {E : XK} {o e : Expr} {es : List Expr} {m : Str} {pos apos : Pos} {ta : TE} {t : TA} {pl : Sem Bool}
theorem pe_sta (he : PE X o ta) (r : ClX.CRead X.K C mc) (c : CSta X.K C mc m p g) (F : FnOk X.prog X.w X.K X.mg X.base CX k g fd ps sp) (hr : Room k X.A) (hb : Binds X.K fd ps []) (hx : Passes CX X E) (ha : PA X (e :: es) t)
    (hst : starEach (e :: es) X.env = (false, eval e X.env) :: starEach es X.env := by rfl) (hpl : (backTo pos (starEach es X.env)).any (·.1) = false := by rfl)
    (ht : eval (.Call (.Attribute o m apos) (e :: es) [] pos) X.env = (do
      let ov ← eval o X.env
      standAt apos.atName
      let (f, first) ← holding [ov] (getMethod ov m pl)
      callWith pos f first (backTo pos (starEach (e :: es) X.env)) (backToKw pos (keywordEach [] X.env))) := by rfl) :
    PE X (.Call (.Attribute o m apos) (e :: es) [] pos) (tSta C sp E ta t) := by
  refine ⟨fun pins s σ H Q I h => ?_⟩
  refine PySem.W.methodCall_KW (pl := pl) (thn (he.run pins s σ H _ I h) fun u s1 ⟨x, H1, I1, rx, ex, q⟩ => ?_) ht
  subst ex
  obtain rfl : u = Value.ref C := rx
  obtain ⟨rest, hp⟩ := c.rc
  refine PySem.W.method_cls I1.kIn r.ga (PySem.W.cls_bind I1.kIn r.rd c.at_ (wpAny_call (PySem.W.sm_get (s := { s1 with toks := s1.toks + 1 }) I1.kIn hp (PySem.W.handed_on rfl ?_))))
  have I2 := I1.tok (s1.toks + 1)
  refine PySem.W.callWith_K (first := []) (h₀ := X.base) I.ok.mod.kin c.kp (thn (ha.run pos pins _ σ H1 _ I2 q) fun us s2 ⟨vs, H2, I3, rv, q2⟩ => ⟨I3.kIn, ?_⟩) hst hpl
  exact run_fn (us := us) (vs := vs) F hr hb .nil hx I3 rv (by rw [List.append_nil]; exact q2)
end
end L2
namespace J
open PySem PySem.Spec PyProof.Rows L2
/-- x == 5 by the text's own __eq__ -/
def rEqOwnI (C : Addr) (sp : Sp) (E : XK) : R2 := fun x y H Q => ∃ a n dx fs, x = .ref a ∧ y = .int n ∧ H a = some (.ins C dx fs) ∧ sp [x, y] H (fun v H' => (∃ c, v = .bl c) ∧ Q v H') E
theorem op_eqOwnI {X : Cx} {CX : CXT} {n : Nat} {C f : Addr} {fd : FuncData} {ps : List Str} {sp : Sp} {E : XK} (F : FnOk X.prog X.w X.K X.mg X.base CX n f fd ps sp)
    (hs : PySem.W.findIn X.K (.ref C) "__eq__" = some (some (.ref f))) (hf : PySem.W.isFn X.K (.ref f) = true) (hb : Binds X.K fd ps []) (hx : Passes CX X E) (hr : Room n X.A)
    (hn : PySem.W.notFirst X.K C (.type "int") = true) : OpR X (compareOp .Eq) (rEqOwnI C sp E) := by
  intro pins s σ H x y v u Q I rx ry ⟨a, b, dx, fs, ex, ey, ha, q⟩
  subst ex
  subst ey
  obtain rfl : v = Value.ref a := rx
  obtain ⟨t, rfl⟩ := ry
  show wpAny (model X.prog X.w) X.A (richCompare .Eq (.ref a) (.int b t)) (EP X pins σ Q) X.xe s
  obtain ⟨mA, J, _⟩ := ins_get I.hok ha
  obtain ⟨od, J, _⟩ := J.look
  obtain ⟨m, hF⟩ := I.fr
  have r2 : Vals [V.ref a, V.int b] [Value.ref a, Value.int b t] := .cons rfl (.cons ⟨t, rfl⟩ .nil)
  have fin : wpAny (model X.prog X.w) X.A (call (.ref f) [.ref a, .int b t]) (PySem.W.CmpBack (EP X pins σ Q)) X.xe s := by
    refine wpAny_mono (run_fn (dvs := []) (ds := []) (us := [.ref a, .int b t]) (vs := [.ref a, .int b]) F hr hb .nil hx I r2 q) ?_ fun _ _ z => z
    rintro w s' ⟨z, H', I', rz, ⟨c, rfl⟩, qz⟩
    obtain rfl : w = Value.bool c := rz
    exact ⟨V.bl c, H', I', rfl, qz⟩
  have LT : PySem.W.Looks (model X.prog X.w) s.heap (typeOf (.int b t)) (.type "int") := PySem.W.Looks.of_pure rfl
  exact PySem.W.cmp_K (op := .Eq) (tb := .type "int") hr.units0 hF I.ok.mod.kin J LT hn hs hf fin
/-! ### Ties.__eq__ -/
abbrev s_Ties_eq : Stmt := inClass (top 13) 1
theorem sc_Ties_eq : FnScope ["self", "other"] ["self", "other"] (defScope s_Ties_eq) := ⟨rfl, rfl, rfl, by decide +kernel, rfl, by decide +kernel, by decide +kernel⟩
def spTEq (C : Addr) : Sp := fun vs H Q _ => ∃ (a b : Addr) (ns ms : List Int), vs = [.ref a, .ref b] ∧ TiesAt C H a ns ∧ TiesAt C H b ms ∧ Q (.bl (decide (ns = ms))) H
abbrev s_Book_eq : Stmt := inClass (top 21) 2
theorem sc_Book_eq : FnScope ["self", "other"] ["self", "other"] (defScope s_Book_eq) := ⟨rfl, rfl, rfl, by decide +kernel, rfl, by decide +kernel, by decide +kernel⟩
def spBEq (C CB : Addr) : Sp := fun vs H Q _ => ∃ (x : Addr) (y : V) (ns : List Int) (L : List (List Int)), vs = [.ref x, y] ∧ BookAt C CB H x ns L ∧
  ((∃ (y' : Addr) (ms : List Int) (M : List (List Int)), y = .ref y' ∧ BookAt C CB H y' ms M ∧ Q (.bl (decide (ns = ms ∧ L = M))) H) ∨ ((∃ n, y = .int n) ∧ Q (.bl false) H))
abbrev s_check_each : Stmt := inClass (top 21) 18
theorem sc_check_each : FnScope ["self", "ties", "tie"] ["self", "ties"] (defScope s_check_each) := ⟨rfl, rfl, rfl, by decide +kernel, rfl, by decide +kernel, by decide +kernel⟩
/-- the first thing that is no tie -/
def FirstNo (ns : List Int) (ys : List V) (y : V) : Prop := ∃ j : Nat, ys[j]? = some y ∧ tieB ns y = false ∧ ∀ (i : Nat) (y' : V), i < j → ys[i]? = some y' → tieB ns y' = true
def spEach (C CB CN : Addr) : Sp := fun vs H Q E => ∃ (x z : Addr) (ns : List Int) (L : List (List Int)) (ys : List V), vs = [.ref x, .ref z] ∧ BookAt C CB H x ns L ∧ H z = some (.tup ys) ∧ Known H ys ∧ (∀ y, FirstNo ns ys y → Tells H CN "tie" y E) ∧ ((∀ y ∈ ys, tieB ns y = true) → Q .non H)
abbrev s_Book_bars : Stmt := inClass (top 21) 5
theorem sc_Book_bars : FnScope ["self", "p", "q", "r"] ["self", "p", "q", "r"] (defScope s_Book_bars) := ⟨rfl, rfl, rfl, by decide +kernel, rfl, by decide +kernel, by decide +kernel⟩
def spBars (C CB CN : Addr) : Sp := fun vs H Q E => ∃ (x : Addr) (ns : List Int) (L : List (List Int)) (a b c : V), vs = [.ref x, a, b, c] ∧ BookAt C CB H x ns L ∧ Known H [a, b, c] ∧ (∀ y, FirstNo ns [a, b, c] y → Tells H CN "tie" y E) ∧
  (∀ p q r : Nat, a = .int p → b = .int q → c = .int r → p < ns.length → q < ns.length → r < ns.length → ∀ H', Same H H' → Q (.bl (decide ([(p : Int), (q : Int), (r : Int)] ∈ L))) H')
abbrev s_Book_fitting : Stmt := inClass (top 21) 6
theorem sc_Book_fitting : FnScope ["self", "p", "q", "barred", "r"] ["self", "p", "q"] (defScope s_Book_fitting) := ⟨rfl, rfl, rfl, by decide +kernel, rfl, by decide +kernel, by decide +kernel⟩
/-- the ties that fit -/
def fitL (L : List (List Int)) (n p q : Nat) : List Int := ((List.range n).filter fun r : Nat => !decide ([(p : Int), (q : Int), (r : Int)] ∈ L)).map fun r : Nat => (r : Int)
def spFit (C CB CN : Addr) : Sp := fun vs H Q E => ∃ (x : Addr) (ns : List Int) (L : List (List Int)) (a b : V), vs = [.ref x, a, b] ∧ BookAt C CB H x ns L ∧ GoodB ns ∧ Known H [a, b] ∧ (∀ y, FirstNo ns [a, b] y → Tells H CN "tie" y E) ∧
  (∀ p q : Nat, a = .int p → b = .int q → p < ns.length → q < ns.length → ∀ (H' : Hp) (z : Addr), Same H H' → H z = none → H' z = some (.tup ((fitL L ns.length p q).map V.int)) → Q (.ref z) H')
abbrev s_Book_barring : Stmt := inClass (top 21) 7
theorem sc_Book_barring : FnScope ["self", "t", "p", "q", "r"] ["self", "t"] (defScope s_Book_barring) := ⟨rfl, rfl, rfl, by decide +kernel, rfl, by decide +kernel, by decide +kernel⟩
/-- the couples that a tie is barred with -/
def cpl (t : List Int) : List Int := t.take 2
def cplL (L : List (List Int)) (p : Nat) : List (List Int) := (L.filter fun t => decide (t[2]? = some (p : Int))).map cpl
def spBarring (C CB CN : Addr) : Sp := fun vs H Q E => ∃ (x : Addr) (ns : List Int) (L : List (List Int)) (a : V), vs = [.ref x, a] ∧ BookAt C CB H x ns L ∧ (∀ t ∈ L, t ∈ A3 ns.length ns.length) ∧ L.length ≤ 64 ∧ Known H [a] ∧ (∀ y, FirstNo ns [a] y → Tells H CN "tie" y E) ∧
  (∀ p : Nat, a = .int p → p < ns.length → ∀ (H' : Hp) (z : Addr), Same H H' → H z = none → TupsAt H' z (cplL L p) → Q (.ref z) H')
theorem tie_nat {ns : List Int} {p : Nat} (h : p < ns.length) : tieB ns (.int (p : Nat)) = true := tie_in ⟨by omega, by omega⟩
theorem TabAt.get {n : Nat} {L : List (List Int)} {H : Hp} {z : Addr} {p q : Nat} (h : TabAt n L H z) (hp : p < n) (hq : q < n) : ∃ (ps qs : List Addr) (a b : Addr), H z = some (.tup (ps.map V.ref)) ∧ ps[p]? = some a ∧ H a = some (.tup (qs.map V.ref)) ∧ qs[q]? = some b ∧ H b = some (.tup (rowB L n p q n)) := by
  obtain ⟨ps, e, l, f⟩ := h
  have ep : ps[p]? = some ps[p] := List.getElem?_eq_getElem (by omega)
  obtain ⟨qs, e2, l2, f2⟩ := f p _ ep
  have eq : qs[q]? = some qs[q] := List.getElem?_eq_getElem (by omega)
  exact ⟨ps, qs, _, _, e, ep, e2, eq, f2 q _ eq⟩
theorem rowB_at {L : List (List Int)} {n p q r : Nat} (h : r < n) : (rowB L n p q n)[r]? = some (.bl (decide ([(p : Int), (q : Int), (r : Int)] ∈ L))) := by
  unfold rowB
  rw [List.getElem?_map, List.getElem?_range h]
  rfl
theorem ref_at {ps : List Addr} {p : Nat} {a : Addr} (h : ps[p]? = some a) : (ps.map V.ref)[p]? = some (.ref a) := by
  rw [List.getElem?_map, h]
  rfl
section
variable {P : Program} {w : World} {K : PySem.W.Frag} {mg : Str → Option Value} {base : Heap}
theorem ok_Ties_eq {f C : Addr} {fd : FuncData} (F : Fun K "__eq__" "Ties.__eq__" s_Ties_eq f fd) (T : TiX K mg C) (nis : mg "isinstance" = none) : FnOk P w K mg base CX0 1 f fd ["self", "other"] (spTEq C) := by
  refine F.ok sc_Ties_eq (fun vs H Q E h => ?_) (fun cdv A outer s H vs Q E hr h => ?_)
  · obtain ⟨a, b, ns, ms, rfl, _⟩ := h
    rfl
  · obtain ⟨a, b, ns, ms, rfl, ⟨dx, t, ha, ht⟩, ⟨dy, u, hb, hu⟩, k⟩ := h
    refine ⟨_, (pss_one 
  (ps_ret (pe_and (pe_callB call_isi (by rfl) nis (by decide +kernel) (pa_cons (pv 1) (pa_cons (pe_glob (v := .ref C) rfl T.mT rfl) pa_nil))) (pe_one (pe_cmpR (op_eqD hr.units) (pe_fld (pv 0) rfl) (pe_fld (pv 1) rfl) (nomark _)))))), ?_⟩
    refine ⟨_, rfl, _, _, _, _, true, rfl, .own C, .base (.ins hb T.cl T.isc.ha T.isc.hn T.isc.htk T.isc.hm), T.isc.me, _, rfl, if_tr rfl ?_⟩
    refine ⟨_, rfl, a, C, dx, _, _, rfl, ha, T.cl, T.nB, tf_backs _ _, _, rfl, b, C, dy, _, _, rfl, hb, T.cl, T.nB, tf_backs _ _, _, _, .tup (SqT.of ht) (dp_ints ns), .tup (SqT.of hu) (dp_ints ms), shaped_ti ns, shaped_ti ms, ?_⟩
    rw [eqv_ti]
    exact k
theorem eqv_tups : ∀ L M : List (List Int), PyData.eqvAll (tupsD L) (tupsD M) = decide (L = M)
  | [], [] => by simp [tupsD, PyData.eqvAll]
  | [], u :: us => by simp [tupsD, PyData.eqvAll]
  | t :: ts, [] => by simp [tupsD, PyData.eqvAll]
  | t :: ts, u :: us => by
    have ih := eqv_tups ts us
    have h1 := eqv_ti t u
    show (PyData.eqv (.tuple (t.map PyData.int)) (.tuple (u.map PyData.int)) && PyData.eqvAll (tupsD ts) (tupsD us)) = _
    rw [h1, ih]
    by_cases h : t = u
    · by_cases h2 : ts = us
      · simp [h, h2]
      · simp [h, h2]
    · simp [h]
theorem eqv_tupT (L M : List (List Int)) : PyData.eqv (.tuple (tupsD L)) (.tuple (tupsD M)) = decide (L = M) := by
  rw [show PyData.eqv (.tuple (tupsD L)) (.tuple (tupsD M)) = PyData.eqvAll (tupsD L) (tupsD M) by simp only [PyData.eqv], eqv_tups]
theorem ok_Book_eq {f C CB fE : Addr} {fd fdE : FuncData} (F : Fun K "__eq__" "Book.__eq__" s_Book_eq f fd) (T : TiX K mg C) (c : BoX K mg CB) (nis : mg "isinstance" = none)
    (FE : FnOk P w K mg base CX0 1 fE fdE ["self", "other"] (spTEq C)) (aE : PySem.W.findIn K (.ref C) "__eq__" = some (some (.ref fE))) (iE : PySem.W.isFn K (.ref fE) = true) (bE : Binds K fdE ["self", "other"] []) : FnOk P w K mg base CX0 2 f fd ["self", "other"] (spBEq C CB) := by
  refine F.ok sc_Book_eq (fun vs H Q E h => ?_) (fun cdv A outer s H vs Q E hr h => ?_)
  · obtain ⟨x, y, ns, L, rfl, _⟩ := h
    rfl
  · obtain ⟨x, y, ns, L, rfl, ⟨dx, t, b, l, r, a1, a2, a3, a4, a5⟩, h⟩ := h
    refine ⟨_, (pss_one 
  (ps_ret (pe_and (pe_callB call_isi (by rfl) nis (by decide +kernel) (pa_cons (pv 1) (pa_cons (pe_glob (v := .ref CB) rfl c.mB rfl) pa_nil))) (pe_and (pe_cmpR (op_eqOwn FE aE iE bE pass0 hr T.nf) (pe_fld (pv 0) rfl) (pe_fld (pv 1) rfl) (nomark _)) (pe_one (pe_cmpR (op_eqD hr.units) (pe_fld (pv 0) rfl) (pe_fld (pv 1) rfl) (nomark _))))))), ?_⟩
    rcases h with ⟨y', ms, M, rfl, ⟨dy, t', b', l', r', c1, c2, c3, c4, c5⟩, k⟩ | ⟨⟨n, rfl⟩, k⟩
    · obtain ⟨d1, tb1, w1, w2⟩ := id a2
      obtain ⟨d2, tb2, w3, w4⟩ := id c2
      refine ⟨_, rfl, _, _, _, _, true, rfl, .own CB, .base (.ins c1 c.cl c.isc.ha c.isc.hn c.isc.htk c.isc.hm), c.isc.me, _, rfl, if_tr rfl ?_⟩
      refine ⟨_, rfl, x, CB, dx, _, _, rfl, a1, c.cl, c.nT, bf_ties _ _ _ _, _, rfl, y', CB, dy, _, _, rfl, c1, c.cl, c.nT, bf_ties _ _ _ _, t, t', d1, _, rfl, rfl, w1, .inl ⟨d2, _, w3⟩, t, t', ns, ms, rfl, a2, c2, ⟨_, rfl⟩, _, rfl, ?_⟩
      by_cases h1 : ns = ms
      case neg =>
        refine if_fa (decide_eq_false h1) ?_
        rw [decide_eq_false (fun z => h1 z.1)] at k
        exact k
      refine if_tr (decide_eq_true h1) ?_
      refine ⟨_, rfl, x, CB, dx, _, _, rfl, a1, c.cl, c.nB, bf_barred _ _ _ _, _, rfl, y', CB, dy, _, _, rfl, c1, c.cl, c.nB, bf_barred _ _ _ _, _, _, a3.data, c3.data, shaped_tupsT L, shaped_tupsT M, ?_⟩
      rw [eqv_tupT]
      have e : decide (L = M) = decide (ns = ms ∧ L = M) := by simp [h1]
      rw [e]
      exact k
    · exact ⟨_, rfl, _, _, _, _, false, rfl, .own CB, .base (.int n), c.ni, _, rfl, if_fa rfl k⟩
end
end J

set_option Elab.async false
set_option linter.all false
set_option maxRecDepth 100000
set_option maxHeartbeats 8000000
namespace J
open PySem PySem.Spec PyProof.Rows L2
theorem fit_take {L : List (List Int)} {p q i : Nat} : ((List.range (i + 1)).filter fun r : Nat => !decide ([(p : Int), (q : Int), (r : Int)] ∈ L)) = ((List.range i).filter fun r : Nat => !decide ([(p : Int), (q : Int), (r : Int)] ∈ L)) ++ (if (!decide ([(p : Int), (q : Int), (i : Int)] ∈ L)) = true then [i] else []) := by
  rw [List.range_succ, List.filter_append]
  have e : [i].filter (fun r : Nat => !decide ([(p : Int), (q : Int), (r : Int)] ∈ L)) = if (!decide ([(p : Int), (q : Int), (i : Int)] ∈ L)) = true then [i] else [] := by
    simp only [List.filter]
    cases hc : (!decide ([(p : Int), (q : Int), (i : Int)] ∈ L)) <;> rfl
  rw [e]
theorem fit_len {L : List (List Int)} {p q i : Nat} : (fitL L i p q).length ≤ i := by
  unfold fitL
  rw [List.length_map]
  have := List.length_filter_le (fun r : Nat => !decide ([(p : Int), (q : Int), (r : Int)] ∈ L)) (List.range i)
  rw [List.length_range] at this
  exact this
section
variable {P : Program} {w : World} {K : PySem.W.Frag} {mg : Str → Option Value} {base : Heap}
theorem ok_check_each {f C CB CN fH fI : Addr} {fd fdH fdI : FuncData} (F : Fun K "_check_each" "Book._check_each" s_check_each f fd) (T : TiC K C) (c : BoC K CB) (GH : Mt P w K mg base CX0 2 C "has" fH fdH ["self", "thing"] (spHas C)) (GN : Ex P w K mg base "NoTie" "tie" CN fI fdI ["self", "tie"]) :
    FnOk P w K mg base (L2.CX P w) 3 f fd ["self", "ties"] (spEach C CB CN) := by
  refine F.okX sc_check_each (fun vs H Q E h => ?_) (fun cdv A outer s H vs Q E hr h => ?_)
  · obtain ⟨x, z, ns, L, ys, rfl, _⟩ := h
    rfl
  · obtain ⟨x, z, ns, L, ys, rfl, ⟨dx, t, b, l, r, a1, a2, a3, a4, a5⟩, hz, kn, k1, k2⟩ := h
    obtain ⟨dt, tb, w1, w2⟩ := id a2
    refine ⟨_, (pss_one 
  (ps_for (passes_of rfl) rfl (pi_tup (pv 1)) (pg_name (i := 2) sc_check_each.nd rfl (Or.inl rfl)) (pss_one 
    (ps_if (pt_not (pt_val (pe_meth (pe_fld (pv 0) rfl) T.cl GH.M GH.F hr GH.b .nil pass0 (pa_cons (pv 2) pa_nil)))) (pss_one 
      (ps_raise rfl (takes_of rfl rfl rfl rfl) (pmk_oex GN.o GN.i GN.t GN.F hr GN.b .nil pass0 rfl GN.m (pa_cons (pv 2) pa_nil)))) pss_nil)))), ?_⟩
    refine ⟨_, rfl, z, rfl, ⟨_, SqT.of hz⟩, for_tup (K := K) (a := z) (xs := ys) (fun i σ H' => ∃ v2 : Option V, σ = [some (.ref x), some (.ref z), v2] ∧ H' = H ∧ ∀ (a : Nat) (y : V), a < i → ys[a]? = some y → tieB ns y = true)
      ⟨none, rfl, rfl, fun a y ha => absurd ha (Nat.not_lt_zero a)⟩ (fun i σ H' _ ⟨_, _, e, _⟩ => by rw [e]; exact SqT.of hz) ?_ ?_⟩
    · rintro i y σ H' hy ⟨v2, rfl, rfl, hb⟩
      obtain ⟨sy, isy⟩ := kn y (List.mem_of_getElem? hy)
      refine ⟨_, rfl, x, CB, dx, _, _, rfl, a1, c.cl, c.nT, bf_ties _ _ _ _, t, dt, _, rfl, w1, tf_no _ _ (by decide +kernel) (by decide +kernel), _, rfl, t, ns, y, sy, rfl, a2, isy, _, rfl, ?_⟩
      cases e : tieB ns y with
      | false => exact iteT ⟨_, rfl, mkO_of (k1 y ⟨i, hy, e, hb⟩)⟩
      | true =>
        refine iteF ⟨_, rfl, rfl, fun a y' ha ey => ?_⟩
        rcases Nat.lt_or_ge a i with h | h
        · exact hb a y' h ey
        · obtain rfl : a = i := by omega
          rw [hy] at ey
          obtain rfl := Option.some.inj ey
          exact e
    · rintro σ H' ⟨v2, rfl, rfl, hb⟩
      refine k2 fun y hm => ?_
      obtain ⟨j, hj⟩ := List.mem_iff_getElem?.mp hm
      exact hb j y (List.getElem?_eq_some_iff.mp hj).1 hj
theorem ok_Book_bars {f C CB CN fE : Addr} {fd fdE : FuncData} (F : Fun K "bars" "Book.bars" s_Book_bars f fd) (c : BoC K CB) (GE : Mt P w K mg base (L2.CX P w) 3 CB "_check_each" fE fdE ["self", "ties"] (spEach C CB CN)) :
    FnOk P w K mg base (L2.CX P w) 4 f fd ["self", "p", "q", "r"] (spBars C CB CN) := by
  refine F.okX sc_Book_bars (fun vs H Q E h => ?_) (fun cdv A outer s H vs Q E hr h => ?_)
  · obtain ⟨x, ns, L, a, b, c', rfl, _⟩ := h
    rfl
  · obtain ⟨x, ns, L, va, vb, vc, rfl, hB, kn, k1, k2⟩ := h
    obtain ⟨dx, t, b, l, r, a1, a2, a3, a4, a5⟩ := id hB
    refine ⟨_, (pss_cons 
  (ps_expr (pe_meth (pv 0) c.cl GE.M GE.F hr GE.b .nil (passes_call (takes_of rfl rfl rfl rfl) (fun _ _ _ _ h => h)) (pa_cons (pe_tup (pa_cons (pv 1) (pa_cons (pv 2) (pa_cons (pv 3) pa_nil)))) pa_nil))) (pss_one 
  (ps_ret (pe_ix ix_tup (pe_ix ix_tup (pe_ix ix_tup (pe_fld (pv 0) rfl) (pv 1) (fun _ _ => rfl)) (pv 2) (fun _ _ => rfl)) (pv 3) (fun _ _ => rfl))))), ?_⟩
    refine ⟨_, rfl, x, dx, _, rfl, a1, bf_no _ _ _ _ (by decide +kernel) (by decide +kernel) (by decide +kernel) (by decide +kernel), _, rfl, _, rfl, _, rfl, (by show 3 ≤ sizeLine; decide), fun z hz => ?_⟩
    have S1 : Same H (upd H z (.tup [va, vb, vc])) := new_same hz
    have ez : (upd H z (.tup [va, vb, vc])) z = some (.tup [va, vb, vc]) := upd_same
    generalize upd H z (.tup [va, vb, vc]) = H1 at S1 ez
    refine ⟨x, z, ns, L, _, rfl, hB.keep S1, ez, kn.keep S1, fun y hy => (k1 y hy).mono S1, fun hall => ?_⟩
    obtain ⟨p, p2, rfl, ep⟩ := tieB_true (hall va (by simp))
    obtain ⟨q, q2, rfl, eq⟩ := tieB_true (hall vb (by simp))
    obtain ⟨r0, r2, rfl, er⟩ := tieB_true (hall vc (by simp))
    have lp := (List.getElem?_eq_some_iff.mp ep).1
    have lq := (List.getElem?_eq_some_iff.mp eq).1
    have lr := (List.getElem?_eq_some_iff.mp er).1
    obtain ⟨ps, qs, u, v, e1, e2, e3, e4, e5⟩ := (a5.keep S1).get lp lq
    refine ⟨_, rfl, x, CB, dx, _, _, rfl, S1 _ _ a1, c.cl, c.nR, bf_table _ _ _ _, _, rfl, _, _, _, _, rfl, rfl, SqT.of e1, at_of (j := p) (v := .ref u) rfl (ref_at e2), _, rfl, _, _, _, _, rfl, rfl, SqT.of e3, at_of (j := q) (v := .ref v) rfl (ref_at e4), _, rfl, _, _, _, _, rfl, rfl, SqT.of e5, at_of (j := r0) (v := .bl _) rfl (rowB_at lr), ?_⟩
    exact k2 p q r0 rfl rfl rfl lp lq lr _ S1
theorem ok_Book_fitting {f C CB CN fE : Addr} {fd fdE : FuncData} (F : Fun K "fitting" "Book.fitting" s_Book_fitting f fd) (T : TiC K C) (c : BoC K CB) (nt : mg "tuple" = none) (nr : mg "range" = none) (GE : Mt P w K mg base (L2.CX P w) 3 CB "_check_each" fE fdE ["self", "ties"] (spEach C CB CN)) :
    FnOk P w K mg base (L2.CX P w) 4 f fd ["self", "p", "q"] (spFit C CB CN) := by
  refine F.okX sc_Book_fitting (fun vs H Q E h => ?_) (fun cdv A outer s H vs Q E hr h => ?_)
  · obtain ⟨x, ns, L, a, b, rfl, _⟩ := h
    rfl
  · obtain ⟨x, ns, L, va, vb, rfl, hB, gb, kn, k1, k2⟩ := h
    obtain ⟨dx, t, b, l, r, a1, a2, a3, a4, a5⟩ := id hB
    obtain ⟨dt, tb, w1, w2⟩ := id a2
    have h4 := gb.hi
    refine ⟨_, (pss_cons 
  (ps_expr (pe_meth (pv 0) c.cl GE.M GE.F hr GE.b .nil (passes_call (takes_of rfl rfl rfl rfl) (fun _ _ _ _ h => h)) (pa_cons (pe_tup (pa_cons (pv 1) (pa_cons (pv 2) pa_nil))) pa_nil))) (pss_cons 
  (ps_set (i := 3) sc_Book_fitting.nd rfl (Or.inr rfl) (pe_ix ix_tup (pe_ix ix_tup (pe_fld (pv 0) rfl) (pv 1) (fun _ _ => rfl)) (pv 2) (fun _ _ => rfl))) (pss_one 
  (ps_ret (pe_callTy (T := "tuple") (r := rTup K) call_tuple_of (by rfl) nt (by decide +kernel) (pa_cons (pe_lc (own := [("r", 4)]) (g := gName 4) (by rfl) sc_Book_fitting.nd (pi_range1 (by rfl) nr (pa_cons (pe_fld (pe_fld (pv 0) rfl) rfl) pa_nil)) (blkOk_by (own := [("r", 4)]) (N := ["self", "p", "q", "barred", "r"]) (sc := defScope s_Book_fitting) (by decide +kernel)) (fun _ _ _ _ _ => pg_name (i := 4) sc_Book_fitting.nd rfl (Or.inl rfl)) (fun _ _ _ _ _ => pts_one (pt_not (pt_val (pe_ix (r := rIxT K) ix_tup (pv 3) (pv 4) (fun _ _ => rfl))))) (fun _ _ _ _ _ => (pv 4))) pa_nil)))))), ?_⟩
    refine ⟨_, rfl, x, dx, _, rfl, a1, bf_no _ _ _ _ (by decide +kernel) (by decide +kernel) (by decide +kernel) (by decide +kernel), _, rfl, _, rfl, (by show 2 ≤ sizeLine; decide), fun z hz => ?_⟩
    have S1 : Same H (upd H z (.tup [va, vb])) := new_same hz
    have ez : (upd H z (.tup [va, vb])) z = some (.tup [va, vb]) := upd_same
    generalize upd H z (.tup [va, vb]) = H1 at S1 ez
    refine ⟨x, z, ns, L, _, rfl, hB.keep S1, ez, kn.keep S1, fun y hy => (k1 y hy).mono S1, fun hall => ?_⟩
    obtain ⟨p, p2, rfl, ep⟩ := tieB_true (hall va (by simp))
    obtain ⟨q, q2, rfl, eq⟩ := tieB_true (hall vb (by simp))
    have lp := (List.getElem?_eq_some_iff.mp ep).1
    have lq := (List.getElem?_eq_some_iff.mp eq).1
    obtain ⟨ps, qs, u, v, e1, e2, e3, e4, e5⟩ := (a5.keep S1).get lp lq
    refine ⟨_, rfl, x, CB, dx, _, _, rfl, S1 _ _ a1, c.cl, c.nR, bf_table _ _ _ _, _, rfl, _, _, _, _, rfl, rfl, SqT.of e1, at_of (j := p) (v := .ref u) rfl (ref_at e2), _, rfl, _, _, _, _, rfl, rfl, SqT.of e3, at_of (j := q) (v := .ref v) rfl (ref_at e4), ?_⟩
    refine ⟨_, rfl, x, CB, dx, _, _, rfl, S1 _ _ a1, c.cl, c.nT, bf_ties _ _ _ _, t, C, dt, _, _, rfl, S1 _ _ w1, T.cl, T.nM, tf_many _ _, (ns.length : Nat), rfl, by omega, by omega, fun D hD => ?_⟩
    refine lc_range (lo := 0) (n := ns.length) (fun i H2 => Same H1 H2 ∧ H1 D = none ∧ H2 D = some (.lst ((fitL L i p q).map V.int))) ⟨new_same hD, hD, upd_same⟩ ?_ ?_
    · rintro i H2 hi ⟨S2, n2, e2'⟩
      refine ⟨rfl, _, rfl, _, rfl, _, _, _, _, rfl, rfl, SqT.of (S2 _ _ e5), at_of (j := i) (v := .bl (decide ([(p : Int), (q : Int), (i : Int)] ∈ L))) (by rw [Int.zero_add]) (rowB_at hi), _, rfl, ?_⟩
      cases hc : (!decide ([(p : Int), (q : Int), (i : Int)] ∈ L)) with
      | true =>
        refine if_tr hc ⟨_, rfl, _, e2', ?_, fun b o e => ?_, n2, ?_⟩
        · rw [List.length_map]
          have := fit_len (L := L) (p := p) (q := q) (i := i)
          exact small1000 (by omega)
        · rw [upd_ne (ne_of_none e n2)]
          exact S2 _ _ e
        · rw [upd_same]
          unfold fitL
          rw [fit_take, if_pos hc, List.map_append, List.map_append]
          simp
      | false =>
        refine if_fa hc ⟨S2, n2, ?_⟩
        unfold fitL at e2' ⊢
        rw [fit_take, if_neg (by rw [hc]; decide), List.append_nil]
        exact e2'
    · rintro H2 ⟨S2, n2, e2'⟩
      refine ⟨D, _, rfl, .inl ⟨SqL.of e2', fun zz hzz => ?_⟩⟩
      exact k2 p q rfl rfl lp lq _ zz ((S1.trans S2).trans (new_same hzz)) (same_free S1 (same_free S2 hzz)) upd_same
end
end J

set_option Elab.async false
set_option linter.all false
set_option maxRecDepth 100000
set_option maxHeartbeats 8000000
namespace J
open PySem PySem.Spec PyProof.Rows L2
/-! ### books are made -/
theorem ArgB.mono {C CE : Addr} {w : Str} {t v : V} {H H' : Hp} {E : XK} {k k' : List Int → List (List Int) → Prop} (h : ArgB C CE w t v H E k) (S : Same H H') (hk : ∀ ns ts, k ns ts → k' ns ts) : ArgB C CE w t v H' E k' := by
  rcases h with ⟨⟨z, xs, e, hz⟩, T⟩ | ⟨x, ns, s, ss, e, hT, gb, hv, hs, k1, k2, k3⟩
  · exact .inl ⟨⟨z, xs, e, S _ _ hz⟩, T.mono S⟩
  · exact .inr ⟨x, ns, s, ss, e, hT.keep S, gb, hv.keep S, hs.keep S, fun a => (k1 a).mono S, fun j s' a b c d => (k2 j s' a b c d).mono S, fun a b => hk _ _ (k3 a b)⟩
theorem ArgB.good {C CE : Addr} {w : Str} {v : V} {H : Hp} {E : XK} {k : List Int → List (List Int) → Prop} {x : Addr} {ns : List Int} {s : Sh} {ss : List Sh} (hT : TiesAt C H x ns) (gb : GoodB ns) (hv : Is H v s) (sq : (s.isL || s.isT) = true) (hs : ShAll H (items s) ss)
    (hb : ∀ s' ∈ ss, threeB ns s' = true) (hk : k ns (trs ss)) : ArgB C CE w (.ref x) v H E k :=
  .inr ⟨x, ns, s, ss, rfl, hT, gb, hv, hs, (fun a => by rw [sq] at a; cases a), (fun j s' _ e1 e2 _ => by rw [hb s' (List.mem_of_getElem? e1)] at e2; cases e2), fun _ _ => hk⟩
/-- the book that is made -/
abbrev BookK (C CB : Addr) (H : Hp) (R : Addr → VK) : List Int → List (List Int) → Prop := fun ns ts => ∀ H' x, Same H H' → H x = none → BookAt C CB H' x ns (brd ns ts) → R x .non H'
theorem mk_book {K : PySem.W.Frag} {C CB CE : Addr} {t v : V} {H : Hp} {E : XK} {R : Addr → VK} (h : ArgB C CE "barred" t v H E (BookK C CB H R)) :
    ∀ x dx, H x = none → H dx = none → dx ≠ x → spBI K C CB CE [.ref x, t, v] (upd (upd H dx (.own x)) x (.ins CB dx [])) (R x) E := fun x dx hx hd _ =>
  ⟨x, dx, t, v, rfl, upd_same, .inl (h.mono (made_same (H := H) (o := .own x) (u := .ins CB dx []) hx hd) fun ns ts k H' B Bk => k H' x (made_but hx hd B) hx Bk)⟩
theorem mk_book0 {K : PySem.W.Frag} {C CB CE : Addr} {tt a : Addr} {ns : List Int} {H : Hp} {E : XK} {R : Addr → VK} (hT : TiesAt C H tt ns) (gb : GoodB ns) (ha : KT K a) (k : ∀ H' x, Same H H' → H x = none → BookAt C CB H' x ns [] → R x .non H') :
    ∀ x dx, H x = none → H dx = none → dx ≠ x → spBI K C CB CE [.ref x, .ref tt, .ref a] (upd (upd H dx (.own x)) x (.ins CB dx [])) (R x) E := fun x dx hx hd _ =>
  ⟨x, dx, .ref tt, .ref a, rfl, upd_same, .inr ⟨tt, a, ns, rfl, rfl, hT.keep (made_same (H := H) (o := .own x) (u := .ins CB dx []) hx hd), gb, ha, fun H' B Bk => k H' x (made_but hx hd B) hx Bk⟩⟩
theorem sh_three {ns : List Int} {t : List Int} (h : t ∈ A3 ns.length ns.length) : threeB ns (.tup (t.map V.int)) = true := by
  obtain ⟨p, q, r, rfl, ip, iq, ir⟩ := A3_in h (ns := ns) rfl
  exact three_yes (s := .tup ([p, q, r].map V.int)) rfl rfl ip iq ir
def shT (L : List (List Int)) : List Sh := L.map fun t => Sh.tup (t.map V.int)
theorem trs_shT : ∀ L : List (List Int), trs (shT L) = L
  | [] => rfl
  | t :: L => by
    show (t.map V.int).map ofV :: trs (shT L) = t :: L
    rw [trs_shT L, List.map_map]
    congr 1
    have : (ofV ∘ V.int) = id := rfl
    rw [this, List.map_id]
theorem sh_tups {H : Hp} : ∀ {ps : List Addr} {L : List (List Int)}, ps.length = L.length → (∀ (j : Nat) (a : Addr) (ts : List Int), ps[j]? = some a → L[j]? = some ts → H a = some (.tup (ts.map V.int))) → ShAll H (ps.map V.ref) (shT L)
  | [], [], _, _ => .nil
  | [], _ :: _, h, _ => by cases h
  | _ :: _, [], h, _ => by cases h
  | p :: ps, t :: ts, h, f => .cons ⟨⟨p, rfl, f 0 p t rfl rfl⟩, ints_known t⟩ (sh_tups (Nat.succ.inj h) fun j a b e1 e2 => f (j + 1) a b (by simpa using e1) (by simpa using e2))
theorem LstsAt.arg {C CE : Addr} {w : Str} {H : Hp} {E : XK} {k : List Int → List (List Int) → Prop} {x z : Addr} {ns : List Int} {L : List (List Int)} (h : LstsAt H z L) (hT : TiesAt C H x ns) (gb : GoodB ns) (hA : ∀ t ∈ L, t ∈ A3 ns.length ns.length) (hk : k ns L) : ArgB C CE w (.ref x) (.ref z) H E k := by
  obtain ⟨ps, e1, e2, e3⟩ := h
  refine ArgB.good hT gb (s := .lst (ps.map V.ref)) ⟨z, rfl, e1⟩ rfl (sh_tups e2 e3) (fun s' hs' => ?_) (by rw [trs_shT]; exact hk)
  obtain ⟨t, ht, rfl⟩ := List.mem_map.mp hs'
  exact sh_three (hA t ht)
abbrev s_Book_letting : Stmt := inClass (top 21) 1
theorem sc_Book_letting : FnScope ["ties", "threes"] ["ties", "threes"] (defScope s_Book_letting) := ⟨rfl, rfl, rfl, by decide +kernel, rfl, by decide +kernel, by decide +kernel⟩
def spLet (C CB CE : Addr) : Sp := fun vs H Q E => ∃ t v : V, vs = [t, v] ∧ ArgB C CE "threes" t v H E (fun ns ts => ∀ H' x, Same H H' → H x = none → BookAt C CB H' x ns (lts ns ts) → Q (.ref x) H')
section
variable {P : Program} {w : World} {K : PySem.W.Frag} {mg : Str → Option Value} {base : Heap}
theorem ok_Book_barring {f C CB CN fE : Addr} {fd fdE : FuncData} (F : Fun K "barring" "Book.barring" s_Book_barring f fd) (c : BoC K CB) (nt : mg "tuple" = none) (GE : Mt P w K mg base (L2.CX P w) 3 CB "_check_each" fE fdE ["self", "ties"] (spEach C CB CN)) :
    FnOk P w K mg base (L2.CX P w) 4 f fd ["self", "t"] (spBarring C CB CN) := by
  refine F.okX sc_Book_barring (fun vs H Q E h => ?_) (fun cdv A outer s H vs Q E hr h => ?_)
  · obtain ⟨x, ns, L, a, rfl, _⟩ := h
    rfl
  · obtain ⟨x, ns, L, va, rfl, hB, hA, l64, kn, k1, k2⟩ := h
    obtain ⟨dx, t, b, l, r, a1, a2, a3, a4, a5⟩ := id hB
    refine ⟨_, (pss_cons 
  (ps_expr (pe_meth (pv 0) c.cl GE.M GE.F hr GE.b .nil (passes_call (takes_of rfl rfl rfl rfl) (fun _ _ _ _ h => h)) (pa_cons (pe_tup (pa_cons (pv 1) pa_nil)) pa_nil))) (pss_one 
  (ps_ret (pe_callTy (T := "tuple") (r := rTup K) call_tuple_of (by rfl) nt (by decide +kernel) (pa_cons (pe_lc (own := [("p", 2), ("q", 3), ("r", 4)]) (g := gTup K 3 (gCons (gName 2) (gCons (gName 3) (gCons (gName 4) gNil)))) (by rfl) sc_Book_barring.nd (pi_tup (pe_fld (pv 0) rfl)) (blkOk_by (own := [("p", 2), ("q", 3), ("r", 4)]) (N := ["self", "t", "p", "q", "r"]) (sc := defScope s_Book_barring) (by decide +kernel)) (fun _ _ _ _ _ => pg_tup (by rfl) (pgs_cons (pg_name (i := 2) sc_Book_barring.nd rfl (Or.inl rfl)) (pgs_cons (pg_name (i := 3) sc_Book_barring.nd rfl (Or.inl rfl)) (pgs_cons (pg_name (i := 4) sc_Book_barring.nd rfl (Or.inl rfl)) pgs_nil)))) (fun _ _ _ _ _ => pts_one (pt_cmpR op_eq (pv 4) (pv 1) (nomark _))) (fun _ _ _ _ _ => (pe_tup (pa_cons (pv 2) (pa_cons (pv 3) pa_nil))))) pa_nil))))), ?_⟩
    refine ⟨_, rfl, x, dx, _, rfl, a1, bf_no _ _ _ _ (by decide +kernel) (by decide +kernel) (by decide +kernel) (by decide +kernel), _, rfl, (by show 1 ≤ sizeLine; decide), fun z hz => ?_⟩
    have S1 : Same H (upd H z (.tup [va])) := new_same hz
    have ez : (upd H z (.tup [va])) z = some (.tup [va]) := upd_same
    generalize upd H z (.tup [va]) = H1 at S1 ez
    refine ⟨x, z, ns, L, _, rfl, hB.keep S1, ez, kn.keep S1, fun y hy => (k1 y hy).mono S1, fun hall => ?_⟩
    obtain ⟨p, p2, rfl, ep⟩ := tieB_true (hall va (by simp))
    have lp := (List.getElem?_eq_some_iff.mp ep).1
    obtain ⟨ps, e1, e2, e3⟩ := a3.keep S1
    refine ⟨_, rfl, x, CB, dx, _, _, rfl, S1 _ _ a1, c.cl, c.nB, bf_barred _ _ _ _, b, rfl, ⟨_, SqT.of e1⟩, fun D hD => ?_⟩
    refine lc_tup (K := K) (a := b) (xs := ps.map V.ref) (fun i H2 => Gro H1 H2 D (((L.take i).filter fun t => decide (t[2]? = some (p : Int))).map cpl)) (Gro.nil hD) (fun i H2 _ G => SqT.of (G.S _ _ e1)) ?_ ?_
    · rintro i y H2 hy G
      rw [List.getElem?_map] at hy
      cases ea : ps[i]? with
      | none =>
        rw [ea] at hy
        cases hy
      | some u =>
        rw [ea] at hy
        obtain rfl : V.ref u = y := Option.some.inj hy
        have li := (List.getElem?_eq_some_iff.mp ea).1
        have el : L[i]? = some L[i] := List.getElem?_eq_getElem (by omega)
        generalize L[i] = tt at el
        obtain ⟨p', q', r', rfl, ip, iq, ir⟩ := A3_in (hA tt (List.mem_of_getElem? el)) (ns := ns) rfl
        have hu := G.S _ _ (e3 i u _ ea el)
        have tf := take_filter (p := fun t : List Int => decide (t[2]? = some (p : Int))) el
        have ed : decide (([p', q', r'] : List Int)[2]? = some (p : Int)) = decide (V.int r' = V.int p) := by simp
        refine ⟨u, _, rfl, SqT.of hu, rfl, _, _, rfl, _, _, rfl, _, _, rfl, rfl, rfl, ?_⟩
        refine ⟨_, rfl, _, rfl, rfl, _, rfl, ?_⟩
        cases hc : decide (V.int r' = V.int p) with
        | true =>
          rw [hc] at ed
          refine iteT ⟨_, rfl, _, rfl, (by show 2 ≤ sizeLine; decide), fun z' hz' => ?_⟩
          obtain ⟨acc, q1, q2, q3⟩ := G.snoc (ts := [p', q']) hz'
          refine ⟨acc, q1, ?_, ?_⟩
          · rw [q2, List.length_map]
            have := List.length_filter_le (fun t : List Int => decide (t[2]? = some (p : Int))) (L.take i)
            rw [List.length_take] at this
            exact small1000 (by omega)
          · rw [tf, if_pos ed, List.map_append]
            exact q3
        | false =>
          rw [hc] at ed
          refine iteF ?_
          rw [tf, if_neg (by rw [ed]; decide), List.append_nil]
          exact G
    · rintro H2 G
      rw [List.length_map, e2, List.take_length] at G
      obtain ⟨qs, d1, d2, d3⟩ := G.d
      refine ⟨D, _, rfl, .inl ⟨SqL.of d1, fun zz hzz => ?_⟩⟩
      exact k2 p rfl lp _ zz ((S1.trans G.S).trans (new_same hzz)) (same_free S1 (same_free G.S hzz)) (G.tup d1 hzz)
theorem ok_Book_letting {f C CB CE fK fB fA fW fI : Addr} {fd fdK fdB fdA fdW fdI : FuncData} (F : Fun K "letting" "Book.letting" s_Book_letting f fd) (mB : mg "Book" = some (.ref CB)) (MI : Mk K CB fI)
    (GC : Cal P w K mg base (L2.CX P w) 4 "_check_threes" fK fdK ["ties", "threes", "word"] (spChk C CE)) (GB : Cal P w K mg base CX0 1 "_but" fB fdB ["threes", "others"] spBut) (GA : Cal P w K mg base CX0 1 "all_threes" fA fdA ["ties"] (spAll C)) (GW : Cal P w K mg base CX0 5 "_with_readings" fW fdW ["ties", "threes"] (spWith C))
    (FI : FnOk P w K mg base (L2.CX P w) 6 fI fdI ["self", "ties", "barred"] (spBI K C CB CE)) (bI : Binds K fdI ["self", "ties", "barred"] []) : FnOk P w K mg base (L2.CX P w) 8 f fd ["ties", "threes"] (spLet C CB CE) := by
  refine F.okX sc_Book_letting (fun vs H Q E h => ?_) (fun cdv A outer s H vs Q E hr h => ?_)
  · obtain ⟨t, v, rfl, _⟩ := h
    rfl
  · obtain ⟨t, v, rfl, h⟩ := h
    refine ⟨_, (pss_cons (ps_expr (pcal GC hr (passes_call (takes_of rfl rfl rfl rfl) (fun _ _ _ _ h => h)) (pa_cons (pv 0) (pa_cons (pv 1) (pa_cons pe_str pa_nil))))) (pss_one 
  (ps_ret (pe_make MI FI hr rfl mB bI .nil (passes_call (takes_of rfl rfl rfl rfl) (fun _ _ _ _ h => h)) (pa_cons (pv 0) (pa_cons (pcal GB hr pass0 (pa_cons (pcal GA hr pass0 (pa_cons (pv 0) pa_nil)) (pa_cons (pcal GW hr pass0 (pa_cons (pv 0) (pa_cons (pv 1) pa_nil))) pa_nil))) pa_nil)))))), ?_⟩
    rcases h with ⟨hz, k⟩ | ⟨tt, ns, sh, ss, rfl, hT, gb, hv, hs, k1, k2, k3⟩
    · exact ⟨_, rfl, _, rfl, t, v, "threes", rfl, .inl ⟨hz, k⟩⟩
    · refine ⟨_, rfl, _, rfl, _, v, "threes", rfl, .inr ⟨tt, ns, sh, ss, rfl, hT, hv, hs, k1, k2, fun sq hb H1 S1 => ?_⟩⟩
      obtain ⟨thr, hA⟩ := thr_of hs hb
      have k := k3 sq hb
      refine ⟨_, rfl, _, rfl, tt, ns, rfl, hT.keep S1, gb, fun H2 z2 S2 n2 T2 => ?_⟩
      refine ⟨_, rfl, _, rfl, tt, ns, v, sh, trs ss, rfl, (hT.keep S1).keep S2, gb, (hv.keep S1).keep S2, sq, (thr.keep S1).keep S2, hA, fun H3 z3 S3 n3 T3 => ?_⟩
      refine ⟨z2, z3, _, _, rfl, T2.keep S3, T3, A3_len _ gb.hi, fun H4 z4 S4 n4 L4 => ?_⟩
      have SA := ((S1.trans S2).trans S3).trans S4
      refine mk_book (LstsAt.arg L4 (hT.keep SA) gb (fun t ht => lts_A3 (ts := trs ss) t ht) ?_)
      intro H5 x S5 nx Bk
      rw [show ((A3 ns.length ns.length).filter fun t => !decide (t ∈ brd ns (trs ss))) = lts ns (trs ss) from rfl, brd_lts gb hA] at Bk
      exact ⟨rfl, k _ x (SA.trans S5) (same_free SA nx) Bk⟩
end
end J

set_option Elab.async false
set_option linter.all false
set_option maxRecDepth 100000
set_option maxHeartbeats 4000000
/-! min(xs), xs a list of tuples of ints: the comparison looks at the heap, so what stood before the call has to stay -/
namespace TM
open PySem PyProof.Rows
/-- everything that stood in h0 stands -/
def Old (h0 h : Heap) : Prop := ∀ b o, h0.get? b = some o → h.get? b = some o
theorem Old.but {h0 h h' : Heap} {wr : List Addr} {S : Addr} (x : Old h0 h) (hw : ∀ b ∈ wr, h0.objs.size ≤ b) (hS : h0.objs.size ≤ S) (k : ∀ b o, b ∉ wr → b ≠ S → h.get? b = some o → h'.get? b = some o) : Old h0 h' := fun b o e =>
  k b o (fun m => Nat.not_lt.mpr (hw b m) (Heap.lt_size e)) (fun q => by subst q; exact Nat.not_lt.mpr hS (Heap.lt_size e)) (x b o e)
section
variable {prog : Program} {w : World} {A : Around} {R : Result → Shared → Prop} {I : Addr} {fp wr : List Addr} {n : Nat} {P : Nat → Value → Prop} {St : Nat → Heap → Prop}
def LtOld (prog : Program) (w : World) (A : Around) (h0 : Heap) (P : Nat → Value → Prop) (bt : Nat → Nat → Bool) : Prop :=
  ∀ i j vi vj (s : Shared) (Q : Value → Shared → Prop) (E : Value → Shared → Prop), Old h0 s.heap → P i vi → P j vj → Q (.bool (bt i j)) s → wpAny (model prog w) A (richCompare .Lt vi vj) Q E s
theorem loop_from (h0 : Heap) (W : Walks prog w A.in1 I fp wr n P St) (bt : Nat → Nat → Bool) (cmp : LtOld prog w A.in1 h0 P bt) (S : Addr) (nS : S ∉ fp) (hw : ∀ b ∈ wr, h0.objs.size ≤ b) (hS0 : h0.objs.size ≤ S) :
    ∀ (m j : Nat) (s : Shared) (best : Value) (c : Nat), n - (j + 1) = m → j + 1 ≤ n → Old h0 s.heap → St (j + 1) s.heap → P (argBest bt j) best →
    s.heap.get? S = some { cls := .type "list", dict := none, data := .seq #[best, best] c, slots := #[] } →
    (∀ v h' tk, P (argBest bt (n - 1)) v → Old h0 h' → R (.ok (.ret v)) { s with heap := h', toks := tk }) →
    codeAny (model prog w) A (.builtin "min.loop" ⟨[.ref I, .none, .ref S], []⟩) R s := by
  have nW : S ∉ wr := fun q => nS (W.sub _ q)
  have nm : (toString "min" ++ toString ".loop" : String) = "min.loop" := by decide
  intro m
  induction m with
  | zero =>
    intro j s best c em hj old hst pb hS fin
    have ej : j + 1 = n := by omega
    refine codeAny_builtin F.entry_min_loop ?_
    rw [Around.under_plainId F.plain_min_loop _]
    show wpAny _ A.in1 (seqItems? (.ref S) >>= _) _ _ s
    refine wpAny_bind (wpAny_seqItems hS rfl ?_)
    show wpAny _ A.in1 (tryCatch (pyNext (.ref I)) _ >>= _) _ _ s
    refine wpAny_bind (wpAny_tryCatch (W.done s _ _ (ej ▸ hst) fun h1 tk k1 => ?_))
    have hS1 := k1 S _ nW hS
    show wpAny _ A.in1 (updateSeq S (fun _ => #[]) >>= _) _ _ _
    refine wpAny_bind ?_
    refine wpAny_updateSeq hS1 rfl (wpAny_bind (wpAny_letGo (wpAny_pure ?_)))
    exact fin best _ tk (by rw [← ej]; exact pb) (old.but hw hS0 fun b o q1 q2 e => (Heap.get?_update_other _ _ (Ne.symm q2)).trans (k1 b o q1 e))
  | succ m ih =>
    intro j s best c em hj old hst pb hS fin
    have lt : j + 1 < n := by omega
    refine codeAny_builtin F.entry_min_loop ?_
    rw [Around.under_plainId F.plain_min_loop _]
    show wpAny _ A.in1 (seqItems? (.ref S) >>= _) _ _ s
    refine wpAny_bind (wpAny_seqItems hS rfl ?_)
    show wpAny _ A.in1 (tryCatch (pyNext (.ref I)) _ >>= _) _ _ s
    refine wpAny_bind (wpAny_tryCatch (W.item (j + 1) s _ _ lt hst fun v h1 tk pv st1 k1 => ?_))
    have hS1 := k1 S _ nW hS
    have old1 : Old h0 h1 := old.but hw hS0 fun b o q1 _ e => k1 b o q1 e
    show wpAny _ A.in1 (tryCatch (holding [v, v] (richCompare .Lt v best >>= _)) _ >>= _) _ _ _
    refine wpAny_bind (wpAny_tryCatch (wpAny_holding (wpAny_bind (cmp (j + 1) (argBest bt j) v best _ _ _ old1 pv pb ?_))))
    refine wpAny_bind (wpAny_holding (wpAny_truthy_bool ?_))
    refine wpAny_bind (wpAny_letGo (wpAny_pure ?_))
    cases hb : bt (j + 1) (argBest bt j) with
    | true =>
      simp only [if_true]
      refine wpAny_bind ?_
      refine wpAny_updateSeq hS1 rfl (wpAny_bind (wpAny_letGo ?_))
      rw [nm]
      refine wpAny_pure ⟨plainId_quiet F.plain_min_loop _, ih (j + 1) _ v _ (by omega) lt (old1.but hw hS0 fun b o _ q e => (Heap.get?_update_other _ _ (Ne.symm q)).trans e) (W.frame _ _ _ st1 fun b mb o e => ?_) (by simp only [argBest, hb, if_true]; exact pv) (Heap.get?_update_self _ hS1 rfl) fin⟩
      exact (Heap.get?_update_other _ _ (fun q : S = b => nS (by rw [q]; exact mb))).trans e
    | false =>
      simp only [Bool.false_eq_true, if_false]
      refine wpAny_bind (wpAny_letGo ?_)
      rw [nm]
      exact wpAny_pure ⟨plainId_quiet F.plain_min_loop _, ih (j + 1) _ best c (by omega) lt old1 st1 (by simp only [argBest, hb, Bool.false_eq_true, if_false]; exact pb) hS1 fin⟩
theorem loop_all (h0 : Heap) (W : Walks prog w A.in1 I fp wr n P St) (bt : Nat → Nat → Bool) (cmp : LtOld prog w A.in1 h0 P bt) (S : Addr) (nS : S ∉ fp) (hw : ∀ b ∈ wr, h0.objs.size ≤ b) (hS0 : h0.objs.size ≤ S) (hn : 0 < n) {s : Shared} {c : Nat} (old : Old h0 s.heap) (hst : St 0 s.heap)
    (hS : s.heap.get? S = some { cls := .type "list", dict := none, data := .seq #[] c, slots := #[] }) (fin : ∀ v h' tk, P (argBest bt (n - 1)) v → Old h0 h' → R (.ok (.ret v)) { s with heap := h', toks := tk }) :
    codeAny (model prog w) A (.builtin "min.loop" ⟨[.ref I, .none, .ref S], []⟩) R s := by
  have nW : S ∉ wr := fun q => nS (W.sub _ q)
  have nm : (toString "min" ++ toString ".loop" : String) = "min.loop" := by decide
  refine codeAny_builtin F.entry_min_loop ?_
  rw [Around.under_plainId F.plain_min_loop _]
  show wpAny _ A.in1 (seqItems? (.ref S) >>= _) _ _ s
  refine wpAny_bind (wpAny_seqItems hS rfl ?_)
  show wpAny _ A.in1 (tryCatch (pyNext (.ref I)) _ >>= _) _ _ s
  refine wpAny_bind (wpAny_tryCatch (W.item 0 s _ _ hn hst fun v h1 tk pv st1 k1 => ?_))
  have hS1 := k1 S _ nW hS
  have old1 : Old h0 h1 := old.but hw hS0 fun b o q1 _ e => k1 b o q1 e
  show wpAny _ A.in1 (updateSeq S (fun _ => #[v, v]) >>= _) _ _ _
  refine wpAny_bind ?_
  refine wpAny_updateSeq hS1 rfl ?_
  rw [nm]
  refine wpAny_pure ⟨plainId_quiet F.plain_min_loop _, loop_from h0 W bt cmp S nS hw hS0 _ 0 _ v _ rfl hn (old1.but hw hS0 fun b o _ q e => (Heap.get?_update_other _ _ (Ne.symm q)).trans e) (W.frame _ _ _ st1 fun b mb o e => ?_) pv (Heap.get?_update_self _ hS1 rfl) fin⟩
  exact (Heap.get?_update_other _ _ (fun q : S = b => nS (by rw [q]; exact mb))).trans e
end
section
variable {prog : Program} {w : World} {A : Around} {E : Value → Shared → Prop} {s : Shared}
theorem min_list {l : Addr} {items : Array Value} {bt : Nat → Nat → Bool} {Q : Value → Shared → Prop} (hh : A.handled = none) (hl : s.heap.IsList l items) (hn : 0 < items.size) (cmp : LtOld prog w A.in1 s.heap (fun i v => items[i]? = some v) bt)
    (fin : ∀ v h' tk, items[argBest bt (items.size - 1)]? = some v → Old s.heap h' → Q v { s with heap := h', toks := tk }) : wpAny (model prog w) A (call (.builtin "min") [.ref l]) Q E s := by
  have nm : (toString "min" ++ toString ".loop" : String) = "min.loop" := by decide
  have lt : l < s.heap.objs.size := let ⟨_, e, _⟩ := hl; Heap.lt_size e
  refine call_function_tree F.kind_min F.plain_min F.entry_min (F.args_min1 _) ?_
  show wpAny _ A.in1 (Builtin.Builtins.bindParams "min" ["key", "default"] 0 ⟨[], []⟩ >>= _) _ _ s
  refine wpAny_bind (wpAny_of_eq (show Builtin.Builtins.bindParams "min" ["key", "default"] 0 ⟨[], []⟩ = pure [none, none] from rfl) ?_)
  refine wpAny_bind (wpAny_pure ?_)
  refine wpAny_bind (wpAny_pyIter_list hl ?_)
  refine wpAny_bind (wpAny_newObj_type ?_)
  rw [nm]
  have W := Walks.list (prog := prog) (w := w) (A := A.in1) hh s.heap.objs.size l (Nat.ne_of_lt lt) items
  refine wpAny_pure ⟨plainId_quiet F.plain_min_loop _, loop_all s.heap W bt cmp _ ?_ ?_ ?_ hn (fun b o e => Heap.get?_push_of_some _ (Heap.get?_push_of_some _ e)) (W.frame _ _ _ ⟨⟨_, Heap.get?_push_size _ rfl, rfl, rfl⟩, ?_⟩ fun b _ o e => Heap.get?_push_of_some _ e) (Heap.get?_push_size _ rfl) fun v h' tk p old => fin v h' tk p old⟩
  · intro m
    have z := Heap.size_push s.heap { cls := .type "list_iterator", data := .fields #[.ref l, .int 0 0] }
    rcases List.mem_cons.mp m with q | q
    · exact absurd q (Nat.ne_of_gt (Nat.lt_of_lt_of_eq (Nat.lt_succ_self _) z.symm))
    · exact absurd (List.mem_singleton.mp q) (Nat.ne_of_gt (Nat.lt_of_lt_of_eq (Nat.lt_succ_of_lt lt) z.symm))
  · intro b m
    rw [List.mem_singleton.mp m]
    exact Nat.le_refl _
  · rw [Heap.size_push]
    exact Nat.le_succ _
  · obtain ⟨o, e, x⟩ := hl
    exact ⟨o, Heap.get?_push_of_some _ e, x⟩
end
end TM

set_option Elab.async false
set_option linter.all false
set_option maxRecDepth 100000
set_option maxHeartbeats 8000000
namespace L2
open PySem PySem.Spec PyProof.Rows
theorem refs_only : ∀ {ps : List Addr} {us : List Value}, Vals (ps.map V.ref) us → us = ps.map Value.ref
  | [], _, .nil => rfl
  | p :: ps, _, .cons r t => by
    cases r
    rw [refs_only t]
    rfl
theorem code3 (a b c : Int) : TS.code 4 [a, b, c] = a * 16 + (b * 4 + c) := by
  show a * 4 ^ 2 + (b * 4 ^ 1 + (c * 4 ^ 0 + 0)) = _
  have e2 : (4 : Int) ^ 2 = 16 := by decide
  have e1 : (4 : Int) ^ 1 = 4 := by decide
  have e0 : (4 : Int) ^ 0 = 1 := by decide
  rw [e2, e1, e0]
  omega
theorem lex3 {ns ms : List Int} (l1 : ns.length = 3) (l2 : ms.length = 3) (b1 : TS.Bd 4 ns) (b2 : TS.Bd 4 ms) :
    Ob.lexAt (fun j => decide (ns.getD j 0 = ms.getD j 0)) (fun j => decide (ns.getD j 0 < ms.getD j 0)) (decide (ns.length < ms.length)) 0 (min ns.length ms.length) = decide (TS.code 4 ns < TS.code 4 ms) := by
  obtain ⟨a, b, c, rfl⟩ : ∃ a b c, ns = [a, b, c] := match ns, l1 with | [a, b, c], _ => ⟨a, b, c, rfl⟩
  obtain ⟨a', b', c', rfl⟩ : ∃ a b c, ms = [a, b, c] := match ms, l2 with | [a, b, c], _ => ⟨a, b, c, rfl⟩
  have p1 := b1 a (by simp)
  have p2 := b1 b (by simp)
  have p3 := b1 c (by simp)
  have q1 := b2 a' (by simp)
  have q2 := b2 b' (by simp)
  have q3 := b2 c' (by simp)
  rw [code3, code3]
  show (if decide (a = a') = true then (if decide (b = b') = true then (if decide (c = c') = true then decide (3 < 3) else decide (c < c')) else decide (b < b')) else decide (a < a')) = _
  by_cases h1 : a = a'
  · rw [if_pos (decide_eq_true h1)]
    by_cases h2 : b = b'
    · rw [if_pos (decide_eq_true h2)]
      by_cases h3 : c = c'
      · rw [if_pos (decide_eq_true h3), decide_eq_false (by decide), decide_eq_false (by omega)]
      · rw [if_neg (by simpa using h3)]
        exact decide_eq_decide.mpr (by omega)
    · rw [if_neg (by simpa using h2)]
      exact decide_eq_decide.mpr (by omega)
  · rw [if_neg (by simpa using h1)]
    exact decide_eq_decide.mpr (by omega)
/-- min(xs), xs a list of tuples of three ties -/
def rMinT : List V → Hp → VK → Prop := fun vs H Q => ∃ (a : Addr) (L : List (List Int)), vs = [V.ref a] ∧ J.LstsAt H a L ∧ 0 < L.length ∧ (∀ t ∈ L, t.length = 3 ∧ TS.Bd 4 t) ∧ ∀ (z : Addr) (t : List Int), t ∈ L → (∀ u ∈ L, TS.code 4 t ≤ TS.code 4 u) → H z = some (.tup (t.map V.int)) → Q (.ref z) H
section
variable {X : Cx}
theorem cr_minT (hc : X.calm = true) (hu : X.A.units + 64 < cLine) : CallR X (.builtin "min") rMinT := by
  intro pins s σ H vs us Q I r h
  obtain ⟨a, L, rfl, ⟨ps, e1, e2, e3⟩, hne, hB, q⟩ := h
  obtain ⟨its, rv, hl, hz⟩ := I.list (SqL.of e1)
  have ei := refs_only rv
  subst ei
  rw [Vals.ref1 r]
  have sz : (ps.map Value.ref).toArray.size = L.length := by simp [e2]
  have at_ : ∀ (i : Nat) (v : Value), (ps.map Value.ref).toArray[i]? = some v → ∃ b, ps[i]? = some b ∧ v = .ref b := by
    intro i v e
    have e' : (ps.map Value.ref)[i]? = some v := by simpa using e
    rw [List.getElem?_map] at e'
    cases hb : ps[i]? with
    | none =>
      rw [hb] at e'
      cases e'
    | some b =>
      rw [hb] at e'
      exact ⟨b, rfl, (Option.some.inj e').symm⟩
  have tup : ∀ (i : Nat) (b : Addr), ps[i]? = some b → ∃ t, L[i]? = some t ∧ t ∈ L ∧ H b = some (.tup (t.map V.int)) := by
    intro i b hb
    have li := (List.getElem?_eq_some_iff.mp hb).1
    have el : L[i]? = some L[i] := List.getElem?_eq_getElem (by omega)
    exact ⟨_, el, List.mem_of_getElem? el, e3 i b _ hb el⟩
  have gd : ∀ (i : Nat) (t : List Int), L[i]? = some t → L.getD i [] = t := fun i t e => by rw [List.getD_eq_getElem?_getD, e]; rfl
  refine TM.min_list (bt := fun i j => decide (TS.code 4 (L.getD i []) < TS.code 4 (L.getD j []))) (I.ok.hd hc) hl.isList (by omega) ?_ ?_
  · intro i j vi vj s' Q' E' old hi hj hq
    obtain ⟨b, hb, rfl⟩ := at_ i vi hi
    obtain ⟨b', hb', rfl⟩ := at_ j vj hj
    obtain ⟨ns, en, mn, tn⟩ := tup i b hb
    obtain ⟨ms, em, mm, tm⟩ := tup j b' hb'
    dsimp only at hq
    rw [gd i ns en, gd j ms em] at hq
    obtain ⟨xs, r1, p1, _⟩ := I.tuple (SqT.of tn)
    obtain ⟨ys, r2, p2, _⟩ := I.tuple (SqT.of tm)
    have P1 : s'.heap.IsTuple b xs.toArray := by
      obtain ⟨o, ho, x⟩ := p1
      exact ⟨o, old _ _ ho, x⟩
    have P2 : s'.heap.IsTuple b' ys.toArray := by
      obtain ⟨o, ho, x⟩ := p2
      exact ⟨o, old _ _ ho, x⟩
    have i1 : IntsAre xs ns := Vals.ints r1
    have i2 : IntsAre ys ms := Vals.ints r2
    have s1 : xs.toArray.size = ns.length := by rw [List.size_toArray]; exact i1.length
    have s2 : ys.toArray.size = ms.length := by rw [List.size_toArray]; exact i2.length
    have at1 : ∀ k (h1 : k < xs.toArray.size), ∃ t, xs.toArray[k] = .int (ns.getD k 0) t := fun k h1 => PyProof.Rows.IntsAre.int_at i1 _ _ (by simp at h1; simp [h1])
    have at2 : ∀ k (h1 : k < ys.toArray.size), ∃ t, ys.toArray[k] = .int (ms.getD k 0) t := fun k h1 => PyProof.Rows.IntsAre.int_at i2 _ _ (by simp at h1; simp [h1])
    have Rc := Ob.RcOp.tuples_lt (A := X.A.in1) (s := s') (e := fun k => decide (ns.getD k 0 = ms.getD k 0)) (r := fun k => decide (ns.getD k 0 < ms.getD k 0)) P1 P2 (by show X.A.units + 1 < cLine; omega) (fun k h1 h2 => by
      obtain ⟨t, et⟩ := at1 k h1
      obtain ⟨t', et'⟩ := at2 k h2
      rw [et, et']
      have z : (ns.getD k 0 == ms.getD k 0) = decide (ns.getD k 0 = ms.getD k 0) := by
        by_cases c : ns.getD k 0 = ms.getD k 0
        · rw [decide_eq_true c]
          exact beq_iff_eq.mpr c
        · rw [decide_eq_false c]
          exact beq_eq_false_iff_ne.mpr c
      rw [← z]
      exact SeqAt.EqAt.int_int _ _ _ _) (fun k h1 h2 _ => by
      obtain ⟨t, et⟩ := at1 k h1
      obtain ⟨t', et'⟩ := at2 k h2
      rw [et, et']
      exact Ob.RcOp.lt_int _ _ _ _)
    rw [s1, s2, lex3 (hB ns mn).1 (hB ms mm).1 (hB ns mn).2 (hB ms mm).2] at Rc
    exact Rc X.prog X.w E' Q' hq
  · intro v h' tk hv old
    obtain ⟨b, hb, rfl⟩ := at_ _ v hv
    obtain ⟨t, et, mt, ht⟩ := tup _ b hb
    obtain ⟨h1, h2⟩ := argBest_lt (fun i => TS.code 4 (L.getD i [])) ((ps.map Value.ref).toArray.size - 1)
    refine ⟨.ref b, H, I.kept old, rfl, q b t mt (fun u hu => ?_) ht⟩
    obtain ⟨j, hj⟩ := List.mem_iff_getElem?.mp hu
    have lj := (List.getElem?_eq_some_iff.mp hj).1
    have z := h2 j (by omega)
    rw [gd _ t et, gd j u hj] at z
    exact z
end
end L2
namespace J
open PySem PySem.Spec PyProof.Rows L2
/-! ### the law's own readings and classes -/
abbrev s_Lreadings : Stmt := top 33
theorem sc_Lreadings : FnScope ["_law_backs_here", "_law_p", "_law_q", "_law_r"] ["_law_backs_here", "_law_p", "_law_q", "_law_r"] (defScope s_Lreadings) := ⟨rfl, rfl, rfl, by decide +kernel, rfl, by decide +kernel, by decide +kernel⟩
def spLR : Sp := fun vs H Q _ => ∃ (b : Addr) (ns : List Int) (p q r : Nat), vs = [.ref b, .int p, .int q, .int r] ∧ H b = some (.lst (ns.map V.int)) ∧ GoodB ns ∧ p < ns.length ∧ q < ns.length ∧ r < ns.length ∧ ∀ (H' : Hp) (z : Addr), Same H H' → H z = none → LstsAt H' z (six ns p q r) → Q (.ref z) H'
theorem bk_at {ns : List Int} {p : Nat} (h : p < ns.length) : (ns.map V.int)[p]? = some (.int (bk ns p)) := by
  have := bk_get (ns := ns) (t := (p : Int)) ⟨by omega, by omega⟩
  rw [Int.toNat_natCast] at this
  rw [List.getElem?_map, this]
  rfl
section
variable {P : Program} {w : World} {K : PySem.W.Frag} {mg : Str → Option Value} {base : Heap}
theorem ok_Lreadings {f : Addr} {fd : FuncData} (F : Fun K "_law_readings" "_law_readings" s_Lreadings f fd) : FnOk P w K mg base CX0 1 f fd ["_law_backs_here", "_law_p", "_law_q", "_law_r"] spLR := by
  refine F.ok sc_Lreadings (fun vs H Q E h => ?_) (fun cdv A outer s H vs Q E hr h => ?_)
  · obtain ⟨b, ns, p, q, r, rfl, _⟩ := h
    rfl
  · obtain ⟨b, ns, p, q, r, rfl, hb, gb, lp, lq, lr, k⟩ := h
    refine ⟨_, (pss_one 
  (ps_ret (pe_lst (pa_cons (pe_tup (pa_cons (pv 1) (pa_cons (pv 2) (pa_cons (pv 3) pa_nil)))) (pa_cons (pe_tup (pa_cons (pv 3) (pa_cons (pe_ix ix_list (pv 0) (pv 2) (fun _ _ => rfl)) (pa_cons (pv 1) pa_nil)))) (pa_cons (pe_tup (pa_cons (pe_ix ix_list (pv 0) (pv 1) (fun _ _ => rfl)) (pa_cons (pv 3) (pa_cons (pv 2) pa_nil)))) (pa_cons (pe_tup (pa_cons (pv 2) (pa_cons (pe_ix ix_list (pv 0) (pv 3) (fun _ _ => rfl)) (pa_cons (pe_ix ix_list (pv 0) (pv 1) (fun _ _ => rfl)) pa_nil)))) (pa_cons (pe_tup (pa_cons (pe_ix ix_list (pv 0) (pv 3) (fun _ _ => rfl)) (pa_cons (pv 1) (pa_cons (pe_ix ix_list (pv 0) (pv 2) (fun _ _ => rfl)) pa_nil)))) (pa_cons (pe_tup (pa_cons (pe_ix ix_list (pv 0) (pv 2) (fun _ _ => rfl)) (pa_cons (pe_ix ix_list (pv 0) (pv 1) (fun _ _ => rfl)) (pa_cons (pe_ix ix_list (pv 0) (pv 3) (fun _ _ => rfl)) pa_nil)))) pa_nil))))))))), ?_⟩
    have S0 : Same H H := Same.refl H
    refine ⟨_, rfl, _, rfl, _, rfl, (by show 3 ≤ sizeLine; decide), fun t1 ht1 => ?_⟩
    have W1 : Same H (upd H t1 (.tup [V.int ((p : Int)), V.int ((q : Int)), V.int ((r : Int))])) := new_same ht1
    have f1 : (upd H t1 (.tup [V.int ((p : Int)), V.int ((q : Int)), V.int ((r : Int))])) t1 = some (.tup (([(p : Int), (q : Int), (r : Int)] : List Int).map V.int)) := upd_same
    have S1 := S0.trans W1
    generalize upd H t1 (.tup [V.int ((p : Int)), V.int ((q : Int)), V.int ((r : Int))]) = K1 at W1 f1 S1
    refine ⟨_, rfl, _, rfl, _, rfl, _, _, _, _, rfl, rfl, SqL.of (S1 _ _ hb), at_of (j := q) (v := .int _) rfl (bk_at lq), _, rfl, (by show 3 ≤ sizeLine; decide), fun t2 ht2 => ?_⟩
    have W2 : Same K1 (upd K1 t2 (.tup [V.int ((r : Int)), V.int (bk ns (q : Nat)), V.int ((p : Int))])) := new_same ht2
    have f2 : (upd K1 t2 (.tup [V.int ((r : Int)), V.int (bk ns (q : Nat)), V.int ((p : Int))])) t2 = some (.tup (([(r : Int), bk ns (q : Nat), (p : Int)] : List Int).map V.int)) := upd_same
    have S2 := S1.trans W2
    generalize upd K1 t2 (.tup [V.int ((r : Int)), V.int (bk ns (q : Nat)), V.int ((p : Int))]) = K2 at W2 f2 S2
    refine ⟨_, rfl, _, rfl, _, _, _, _, rfl, rfl, SqL.of (S2 _ _ hb), at_of (j := p) (v := .int _) rfl (bk_at lp), _, rfl, _, rfl, (by show 3 ≤ sizeLine; decide), fun t3 ht3 => ?_⟩
    have W3 : Same K2 (upd K2 t3 (.tup [V.int (bk ns (p : Nat)), V.int ((r : Int)), V.int ((q : Int))])) := new_same ht3
    have f3 : (upd K2 t3 (.tup [V.int (bk ns (p : Nat)), V.int ((r : Int)), V.int ((q : Int))])) t3 = some (.tup (([bk ns (p : Nat), (r : Int), (q : Int)] : List Int).map V.int)) := upd_same
    have S3 := S2.trans W3
    generalize upd K2 t3 (.tup [V.int (bk ns (p : Nat)), V.int ((r : Int)), V.int ((q : Int))]) = K3 at W3 f3 S3
    refine ⟨_, rfl, _, rfl, _, rfl, _, _, _, _, rfl, rfl, SqL.of (S3 _ _ hb), at_of (j := r) (v := .int _) rfl (bk_at lr), _, rfl, _, rfl, _, _, _, _, rfl, rfl, SqL.of (S3 _ _ hb), at_of (j := p) (v := .int _) rfl (bk_at lp), (by show 3 ≤ sizeLine; decide), fun t4 ht4 => ?_⟩
    have W4 : Same K3 (upd K3 t4 (.tup [V.int ((q : Int)), V.int (bk ns (r : Nat)), V.int (bk ns (p : Nat))])) := new_same ht4
    have f4 : (upd K3 t4 (.tup [V.int ((q : Int)), V.int (bk ns (r : Nat)), V.int (bk ns (p : Nat))])) t4 = some (.tup (([(q : Int), bk ns (r : Nat), bk ns (p : Nat)] : List Int).map V.int)) := upd_same
    have S4 := S3.trans W4
    generalize upd K3 t4 (.tup [V.int ((q : Int)), V.int (bk ns (r : Nat)), V.int (bk ns (p : Nat))]) = K4 at W4 f4 S4
    refine ⟨_, rfl, _, rfl, _, _, _, _, rfl, rfl, SqL.of (S4 _ _ hb), at_of (j := r) (v := .int _) rfl (bk_at lr), _, rfl, _, rfl, _, rfl, _, _, _, _, rfl, rfl, SqL.of (S4 _ _ hb), at_of (j := q) (v := .int _) rfl (bk_at lq), (by show 3 ≤ sizeLine; decide), fun t5 ht5 => ?_⟩
    have W5 : Same K4 (upd K4 t5 (.tup [V.int (bk ns (r : Nat)), V.int ((p : Int)), V.int (bk ns (q : Nat))])) := new_same ht5
    have f5 : (upd K4 t5 (.tup [V.int (bk ns (r : Nat)), V.int ((p : Int)), V.int (bk ns (q : Nat))])) t5 = some (.tup (([bk ns (r : Nat), (p : Int), bk ns (q : Nat)] : List Int).map V.int)) := upd_same
    have S5 := S4.trans W5
    generalize upd K4 t5 (.tup [V.int (bk ns (r : Nat)), V.int ((p : Int)), V.int (bk ns (q : Nat))]) = K5 at W5 f5 S5
    refine ⟨_, rfl, _, rfl, _, _, _, _, rfl, rfl, SqL.of (S5 _ _ hb), at_of (j := q) (v := .int _) rfl (bk_at lq), _, rfl, _, rfl, _, _, _, _, rfl, rfl, SqL.of (S5 _ _ hb), at_of (j := p) (v := .int _) rfl (bk_at lp), _, rfl, _, rfl, _, _, _, _, rfl, rfl, SqL.of (S5 _ _ hb), at_of (j := r) (v := .int _) rfl (bk_at lr), (by show 3 ≤ sizeLine; decide), fun t6 ht6 => ?_⟩
    have W6 : Same K5 (upd K5 t6 (.tup [V.int (bk ns (q : Nat)), V.int (bk ns (p : Nat)), V.int (bk ns (r : Nat))])) := new_same ht6
    have f6 : (upd K5 t6 (.tup [V.int (bk ns (q : Nat)), V.int (bk ns (p : Nat)), V.int (bk ns (r : Nat))])) t6 = some (.tup (([bk ns (q : Nat), bk ns (p : Nat), bk ns (r : Nat)] : List Int).map V.int)) := upd_same
    have S6 := S5.trans W6
    generalize upd K5 t6 (.tup [V.int (bk ns (q : Nat)), V.int (bk ns (p : Nat)), V.int (bk ns (r : Nat))]) = K6 at W6 f6 S6
    refine ⟨(by show 6 ≤ sizeLine; decide), fun l hl => ?_⟩
    have W7 : Same K6 (upd K6 l (.lst [.ref t1, .ref t2, .ref t3, .ref t4, .ref t5, .ref t6])) := new_same hl
    have hl0 : H l = none := same_free S6 hl
    have V6 := W7
    have V5 := W6.trans V6
    have V4 := W5.trans V5
    have V3 := W4.trans V4
    have V2 := W3.trans V3
    have V1 := W2.trans V2
    refine k _ l (S6.trans W7) hl0 ⟨[t1, t2, t3, t4, t5, t6], upd_same, rfl, fun j a ts q1 q2 => ?_⟩
    match j, q1, q2 with
    | 0, q1, q2 =>
      obtain rfl : t1 = a := Option.some.inj q1
      obtain rfl : ([(p : Int), (q : Int), (r : Int)] : List Int) = ts := Option.some.inj q2
      exact V1 _ _ f1
    | 1, q1, q2 =>
      obtain rfl : t2 = a := Option.some.inj q1
      obtain rfl : ([(r : Int), bk ns (q : Nat), (p : Int)] : List Int) = ts := Option.some.inj q2
      exact V2 _ _ f2
    | 2, q1, q2 =>
      obtain rfl : t3 = a := Option.some.inj q1
      obtain rfl : ([bk ns (p : Nat), (r : Int), (q : Int)] : List Int) = ts := Option.some.inj q2
      exact V3 _ _ f3
    | 3, q1, q2 =>
      obtain rfl : t4 = a := Option.some.inj q1
      obtain rfl : ([(q : Int), bk ns (r : Nat), bk ns (p : Nat)] : List Int) = ts := Option.some.inj q2
      exact V4 _ _ f4
    | 4, q1, q2 =>
      obtain rfl : t5 = a := Option.some.inj q1
      obtain rfl : ([bk ns (r : Nat), (p : Int), bk ns (q : Nat)] : List Int) = ts := Option.some.inj q2
      exact V5 _ _ f5
    | 5, q1, q2 =>
      obtain rfl : t6 = a := Option.some.inj q1
      obtain rfl : ([bk ns (q : Nat), bk ns (p : Nat), bk ns (r : Nat)] : List Int) = ts := Option.some.inj q2
      exact V6 _ _ f6
    | j + 6, q1, q2 => simp at q1
end
end J

set_option Elab.async false
set_option linter.all false
set_option maxRecDepth 100000
set_option maxHeartbeats 8000000
namespace J
open PySem PySem.Spec PyProof.Rows L2
theorem min_isL {ns : List Int} {p q r : Int} {t : List Int} (g : GoodB ns) (ip : InT ns p) (iq : InT ns q) (ir : InT ns r) (ht : t ∈ six ns p q r) (hm : ∀ u ∈ six ns p q r, TS.code 4 t ≤ TS.code 4 u) : decide (t = [p, q, r]) = isL ns [p, q, r] := by
  show _ = (six ns p q r).all fun x => decide (TS.code 4 [p, q, r] ≤ TS.code 4 x)
  have me : [p, q, r] ∈ six ns p q r := by simp [six]
  by_cases h : t = [p, q, r]
  · rw [decide_eq_true h, eq_comm, List.all_eq_true]
    exact fun x hx => decide_eq_true (by rw [← h]; exact hm x hx)
  · rw [decide_eq_false h, eq_comm, List.all_eq_false]
    refine ⟨t, ht, fun z => h ?_⟩
    have z := of_decide_eq_true z
    have z2 := hm _ me
    obtain ⟨l1, b1⟩ := six_bd g ip iq ir t ht
    obtain ⟨l2, b2⟩ := six_bd g ip iq ir _ me
    exact code_inj (by omega) b1 b2 (by omega)
abbrev s_Lclasses : Stmt := top 34
theorem sc_Lclasses : FnScope ["_law_backs_here", "_law_many", "_law_found", "_law_p", "_law_q", "_law_r"] ["_law_backs_here"] (defScope s_Lclasses) := ⟨rfl, rfl, rfl, by decide +kernel, rfl, by decide +kernel, by decide +kernel⟩
def spLC : Sp := fun vs H Q _ => ∃ (b : Addr) (ns : List Int), vs = [.ref b] ∧ H b = some (.lst (ns.map V.int)) ∧ GoodB ns ∧ ∀ (H' : Hp) (z : Addr), Same H H' → H z = none → LstsAt H' z ((A3 ns.length ns.length).filter (isL ns)) → Q (.ref z) H'
section
variable {P : Program} {w : World} {K : PySem.W.Frag} {mg : Str → Option Value} {base : Heap}
theorem ok_Lclasses {f fR : Addr} {fd fdR : FuncData} (F : Fun K "_law_classes" "_law_classes" s_Lclasses f fd) (nl : mg "len" = none) (nr : mg "range" = none) (nm : mg "min" = none)
    (GR : Cal P w K mg base CX0 1 "_law_readings" fR fdR ["_law_backs_here", "_law_p", "_law_q", "_law_r"] spLR) : FnOk P w K mg base CX0 2 f fd ["_law_backs_here"] spLC := by
  refine F.ok sc_Lclasses (fun vs H Q E h => ?_) (fun cdv A outer s H vs Q E hr h => ?_)
  · obtain ⟨b, ns, rfl, _⟩ := h
    rfl
  · obtain ⟨b, ns, rfl, hb, gb, k⟩ := h
    have h4 := gb.hi
    refine ⟨_, (pss_cons 
  (ps_set (i := 1) sc_Lclasses.nd rfl (Or.inl rfl) (pe_callB call_len_seq (by rfl) nl PySem.boot_len (pa_cons (pv 0) pa_nil))) (pss_cons 
  (ps_set (i := 2) sc_Lclasses.nd rfl (Or.inl rfl) (pe_lst pa_nil)) (pss_cons 
  (ps_for PassesOwn.never rfl (pi_range1 (by rfl) nr (pa_cons (pv 1) pa_nil)) (pg_name (i := 3) sc_Lclasses.nd rfl (Or.inl rfl)) (pss_one 
    (ps_for PassesOwn.never rfl (pi_range1 (by rfl) nr (pa_cons (pv 1) pa_nil)) (pg_name (i := 4) sc_Lclasses.nd rfl (Or.inl rfl)) (pss_one 
      (ps_for PassesOwn.never rfl (pi_range1 (by rfl) nr (pa_cons (pv 1) pa_nil)) (pg_name (i := 5) sc_Lclasses.nd rfl (Or.inl rfl)) (pss_one 
        (ps_if (pt_cmpR (r := rEqD K) (op_eqD hr.units) (pe_callB (r := rMinT) (cr_minT rfl hr.units) (by rfl) nm (by decide +kernel) (pa_cons (pcal GR hr pass0 (pa_cons (pv 0) (pa_cons (pv 3) (pa_cons (pv 4) (pa_cons (pv 5) pa_nil))))) pa_nil)) (pe_tup (pa_cons (pv 3) (pa_cons (pv 4) (pa_cons (pv 5) pa_nil)))) (nomark _)) (pss_one 
          (ps_expr (pe_bm PySem.F.plainAttrs_list PySem.F.slot_list_append PySem.F.type_list_append mt_append (pv 2) (pa_cons (pe_tup (pa_cons (pv 3) (pa_cons (pv 4) (pa_cons (pv 5) pa_nil)))) pa_nil)))) pss_nil))))))) (pss_one 
  (ps_ret (pv 2)))))), ?_⟩
    have lm : (ns.map V.int).length = ns.length := List.length_map _
    refine ⟨_, rfl, b, _, rfl, .inl (SqL.of hb), ?_⟩
    rw [lm]
    refine ⟨(by show 0 ≤ sizeLine; decide), fun D hD => ?_⟩
    refine ⟨_, rfl, (ns.length : Nat), rfl, by omega, by omega, for_range (lo := 0) (n := ns.length) (fun i σ H' => ∃ v3 v4 v5 : Option V, σ = [some (.ref b), some (.int (ns.length : Nat)), some (.ref D), v3, v4, v5] ∧ Gro H H' D ((A3 ns.length i).filter (isL ns)))
      ⟨none, none, none, rfl, Gro.nil hD⟩ ?_ ?_⟩
    · rintro i σ H2 hi ⟨v3, v4, v5, rfl, G2⟩
      refine ⟨_, rfl, (ns.length : Nat), rfl, by omega, by omega, for_range (lo := 0) (n := ns.length) (fun j σ H' => ∃ v4 v5 : Option V, σ = [some (.ref b), some (.int (ns.length : Nat)), some (.ref D), some (.int (0 + (i : Nat))), v4, v5] ∧ Gro H H' D ((A3 ns.length i ++ A2 ns.length i j).filter (isL ns)))
        ⟨_, _, rfl, by unfold A2; simpa using G2⟩ ?_ ?_⟩
      · rintro j σ H3 hj ⟨v4, v5, rfl, G3⟩
        refine ⟨_, rfl, (ns.length : Nat), rfl, by omega, by omega, for_range (lo := 0) (n := ns.length) (fun l σ H' => ∃ v5 : Option V, σ = [some (.ref b), some (.int (ns.length : Nat)), some (.ref D), some (.int (0 + (i : Nat))), some (.int (0 + (j : Nat))), v5] ∧ Gro H H' D ((A3 ns.length i ++ A2 ns.length i j ++ A1 i j l).filter (isL ns)))
          ⟨_, rfl, by unfold A1; simpa using G3⟩ ?_ ?_⟩
        · rintro l σ H4 hl ⟨v5, rfl, G4⟩
          have ln := A_len ns.length h4 i hi j hj l hl
          have ip : InT ns (i : Int) := ⟨by omega, by omega⟩
          have iq : InT ns (j : Int) := ⟨by omega, by omega⟩
          have ir : InT ns (l : Int) := ⟨by omega, by omega⟩
          have nxt : (A3 ns.length i ++ A2 ns.length i j ++ A1 i j (l + 1)).filter (isL ns) = (A3 ns.length i ++ A2 ns.length i j ++ A1 i j l).filter (isL ns) ++ (if isL ns [(i : Int), (j : Int), (l : Int)] = true then [[(i : Int), (j : Int), (l : Int)]] else []) := by
            rw [A1_succ, ← List.append_assoc, List.filter_append]
            by_cases c : isL ns [(i : Int), (j : Int), (l : Int)] = true
            · rw [if_pos c, List.filter_cons_of_pos c]
              rfl
            · rw [if_neg c, List.filter_cons_of_neg c]
              rfl
          refine ⟨_, rfl, _, rfl, _, rfl, _, rfl, b, ns, i, j, l, (by simp), G4.S _ _ hb, gb, hi, hj, hl, fun H5 z S5 nz Lz => ?_⟩
          refine ⟨z, _, rfl, Lz, (by show 0 < 6; decide), fun t ht => six_bd gb ip iq ir t ht, fun zt t mt hmin et => ?_⟩
          refine ⟨_, rfl, _, rfl, _, rfl, (by show 3 ≤ sizeLine; decide), fun y hy => ?_⟩
          have e3 : ([(i : Int), (j : Int), (l : Int)].map V.int) = [V.int (0 + (i : Nat)), V.int (0 + (j : Nat)), V.int (0 + (l : Nat))] := by simp
          have S6 : Same H5 (upd H5 y (.tup [V.int (0 + (i : Nat)), V.int (0 + (j : Nat)), V.int (0 + (l : Nat))])) := new_same hy
          have ey : (upd H5 y (.tup [V.int (0 + (i : Nat)), V.int (0 + (j : Nat)), V.int (0 + (l : Nat))])) y = some (.tup ([(i : Int), (j : Int), (l : Int)].map V.int)) := by rw [upd_same, e3]
          generalize upd H5 y (.tup [V.int (0 + (i : Nat)), V.int (0 + (j : Nat)), V.int (0 + (l : Nat))]) = H6 at S6 ey
          have G6 := G4.keep (S5.trans S6)
          refine ⟨_, _, .tup (SqT.of (S6 _ _ et)) (dp_ints _), .tup (SqT.of ey) (dp_ints _), shaped_ti _, shaped_ti _, _, rfl, ?_⟩
          rw [eqv_ti, min_isL gb ip iq ir mt hmin]
          cases hc : isL ns [(i : Int), (j : Int), (l : Int)] with
          | true =>
            obtain ⟨ps, d1, d2, d3⟩ := id G6.d
            refine iteT ⟨_, rfl, .inl ⟨rfl, _, SqL.of d1⟩, _, rfl, _, rfl, _, rfl, (by show 3 ≤ sizeLine; decide), fun u hu => ?_⟩
            obtain ⟨acc, q1, q2, q3⟩ := G6.snoc (ts := [(i : Int), (j : Int), (l : Int)]) hu
            rw [e3] at q1 q3
            have fl := List.length_filter_le (isL ns) (A3 ns.length i ++ A2 ns.length i j ++ A1 i j l)
            refine ⟨D, _, _, rfl, rfl, q1, small1000 (by omega), _, rfl, ?_⟩
            rw [nxt, if_pos hc]
            exact q3
          | false =>
            refine iteF ⟨_, rfl, ?_⟩
            rw [nxt, if_neg (by rw [hc]; decide), List.append_nil]
            exact G6
        · rintro σ H4 ⟨v5, rfl, G4⟩
          refine ⟨_, _, rfl, ?_⟩
          rw [A2_succ, ← List.append_assoc]
          exact G4
      · rintro σ H3 ⟨v4, v5, rfl, G3⟩
        refine ⟨_, _, _, rfl, ?_⟩
        rw [A3_succ]
        exact G3
    · rintro σ H2 ⟨v3, v4, v5, rfl, G2⟩
      exact ⟨_, rfl, k _ D G2.S hD G2.lsts⟩
end
end J

set_option Elab.async false
set_option linter.all false
set_option maxRecDepth 100000
set_option maxHeartbeats 8000000
namespace J
open PySem PySem.Spec PyProof.Rows L2
/-! ### the law's world: a table three deep, changed in place -/
def rIxS (K : PySem.W.Frag) : V → V → Hp → VK → Prop := fun x y H Q => rIxL K x y H Q ∨ rIxT K x y H Q
theorem ix_seq {X : Cx} : IxR X (rIxS X.K) := by
  intro e1 e2 pins s σ H x y v u Q I rx ry h hs
  rcases h with h | h
  · exact ix_list e1 e2 pins s σ H x y v u Q I rx ry h hs
  · exact ix_tup e1 e2 pins s σ H x y v u Q I rx ry h hs
abbrev boolsL (n : Nat) (g : Nat → Bool) : List V := (List.range n).map fun r => V.bl (g r)
abbrev refsL (n : Nat) (g : Nat → Addr) : List V := (List.range n).map fun r => V.ref (g r)
structure W3 (H0 H : Hp) (z : Addr) (n : Nat) (po : Nat → Addr) (ro : Nat → Nat → Addr) (f : Nat → Nat → Nat → Bool) : Prop where
  S : Same H0 H
  fz : H0 z = none
  o : H z = some (.lst (refsL n po))
  m : ∀ p, p < n → H (po p) = some (.lst (refsL n (ro p)))
  r : ∀ p q, p < n → q < n → H (ro p q) = some (.lst (boolsL n (f p q)))
  inj : ∀ p q p' q', p < n → q < n → p' < n → q' < n → ro p q = ro p' q' → p = p' ∧ q = q'
  fr : ∀ p q, p < n → q < n → H0 (ro p q) = none
theorem W3.keep {H0 H H' : Hp} {z : Addr} {n : Nat} {po : Nat → Addr} {ro : Nat → Nat → Addr} {f : Nat → Nat → Nat → Bool} (w : W3 H0 H z n po ro f) (S : Same H H') : W3 H0 H' z n po ro f :=
  ⟨w.S.trans S, w.fz, S _ _ w.o, fun p hp => S _ _ (w.m p hp), fun p q hp hq => S _ _ (w.r p q hp hq), w.inj, w.fr⟩
theorem W3.congr {H0 H : Hp} {z : Addr} {n : Nat} {po : Nat → Addr} {ro : Nat → Nat → Addr} {f g : Nat → Nat → Nat → Bool} (w : W3 H0 H z n po ro f) (h : ∀ p q r, p < n → q < n → r < n → f p q r = g p q r) : W3 H0 H z n po ro g :=
  ⟨w.S, w.fz, w.o, w.m, fun p q hp hq => by
    rw [w.r p q hp hq]
    congr 2
    exact List.map_congr_left fun r hr => by rw [h p q r hp hq (List.mem_range.mp hr)], w.inj, w.fr⟩
theorem refs_at {n : Nat} {g : Nat → Addr} {k : Nat} (h : k < n) : (refsL n g)[k]? = some (.ref (g k)) := by
  rw [List.getElem?_map, List.getElem?_range h]
  rfl
theorem bools_at {n : Nat} {g : Nat → Bool} {k : Nat} (h : k < n) : (boolsL n g)[k]? = some (.bl (g k)) := by
  rw [List.getElem?_map, List.getElem?_range h]
  rfl
theorem bools_set {n : Nat} {g : Nat → Bool} {c : Nat} : (boolsL n g).set c (.bl false) = boolsL n (fun r => g r && !decide (r = c)) := by
  apply List.ext_getElem?
  intro k
  rw [List.getElem?_set]
  by_cases hk : k < n
  · rw [bools_at hk, bools_at hk]
    by_cases e : c = k
    · rw [if_pos e, if_pos (by rw [List.length_map, List.length_range]; omega)]
      simp [e]
    · rw [if_neg e]
      have : ¬ k = c := fun z => e z.symm
      simp [this]
  · have h1 : (boolsL n g)[k]? = none := List.getElem?_eq_none (by rw [List.length_map, List.length_range]; omega)
    have h2 : (boolsL n fun r => g r && !decide (r = c))[k]? = none := List.getElem?_eq_none (by rw [List.length_map, List.length_range]; omega)
    rw [h1, h2]
    by_cases e : c = k
    · rw [if_pos e, if_neg (by rw [List.length_map, List.length_range]; omega)]
    · rw [if_neg e]
theorem refs_ne {n : Nat} {g : Nat → Addr} {h : Nat → Bool} (hn : 0 < n) : (refsL n g) ≠ boolsL n h := fun e => by
  have e1 := congrArg (fun l : List V => l[0]?) e
  simp only [refs_at hn, bools_at hn] at e1
  injection e1 with e1
  cases e1
theorem W3.set {H0 H : Hp} {z : Addr} {n : Nat} {po : Nat → Addr} {ro : Nat → Nat → Addr} {f : Nat → Nat → Nat → Bool} {a b c : Nat} (w : W3 H0 H z n po ro f) (ha : a < n) (hb : b < n) :
    W3 H0 (upd H (ro a b) (.lst ((boolsL n (f a b)).set c (.bl false)))) z n po ro (fun p q r => f p q r && !decide (p = a ∧ q = b ∧ r = c)) := by
  have hn : 0 < n := by omega
  have er := w.r a b ha hb
  refine ⟨fun y o e => ?_, w.fz, ?_, fun p hp => ?_, fun p q hp hq => ?_, w.inj, w.fr⟩
  · rw [upd_ne (fun q => by rw [q, w.fr a b ha hb] at e; cases e)]
    exact w.S _ _ e
  · rw [upd_ne (fun q => by rw [← q, w.o] at er; injection er with er; injection er with er; exact refs_ne hn er)]
    exact w.o
  · rw [upd_ne (fun q => by rw [← q, w.m p hp] at er; injection er with er; injection er with er; exact refs_ne hn er)]
    exact w.m p hp
  · by_cases e : p = a ∧ q = b
    · obtain ⟨rfl, rfl⟩ := e
      rw [upd_same, bools_set]
      congr 2
      exact List.map_congr_left fun r _ => by simp
    · rw [upd_ne (fun z => e (w.inj p q a b hp hq ha hb z)), w.r p q hp hq]
      congr 2
      refine List.map_congr_left fun r _ => ?_
      have : ¬ (p = a ∧ q = b ∧ r = c) := fun z => e ⟨z.1, z.2.1⟩
      simp [this]
/-- what is let where L is barred -/
def fB (L : List (List Int)) (p q r : Nat) : Bool := !decide ([(p : Int), (q : Int), (r : Int)] ∈ L)
abbrev s_Llet : Stmt := top 35
theorem sc_Llet : FnScope ["_law_backs_here", "_law_classes_here", "_law_many", "_law_let_here", "_law_three", "_law_reading", "_law_row", "_law_p", "_law_q", "_law_r"] ["_law_backs_here", "_law_classes_here"] (defScope s_Llet) := ⟨rfl, rfl, rfl, by decide +kernel, rfl, by decide +kernel, by decide +kernel⟩
def spLL : Sp := fun vs H Q _ => ∃ (b c : Addr) (ns : List Int) (xs : List V) (ts : List (List Int)), vs = [.ref b, .ref c] ∧ H b = some (.lst (ns.map V.int)) ∧ GoodB ns ∧ H c = some (.lst xs) ∧ ThrAt H xs ts ∧ (∀ t ∈ ts, t ∈ A3 ns.length ns.length) ∧
  ∀ (H' : Hp) (z : Addr) (po : Nat → Addr) (ro : Nat → Nat → Addr), W3 H H' z ns.length po ro (fB (brd ns ts)) → Q (.ref z) H'
/-- rows while they are put one behind another -/
structure GroF (H1 H : Hp) (D : Addr) (i : Nat) (adr : Nat → Addr) (R : Hp → Nat → Addr → Prop) : Prop where
  S : Same H1 H
  f : H1 D = none
  d : H D = some (.lst (refsL i adr))
  r : ∀ k, k < i → R H k (adr k)
  fr : ∀ k, k < i → H1 (adr k) = none
  ne : ∀ k, k < i → adr k ≠ D
  inj : ∀ k k', k < i → k' < i → adr k = adr k' → k = k'
theorem GroF.nil {H1 : Hp} {D : Addr} {R : Hp → Nat → Addr → Prop} {adr : Nat → Addr} (hD : H1 D = none) : GroF H1 (upd H1 D (.lst [])) D 0 adr R :=
  ⟨new_same hD, hD, upd_same, fun k h => absurd h (Nat.not_lt_zero k), fun k h => absurd h (Nat.not_lt_zero k), fun k h => absurd h (Nat.not_lt_zero k), fun k k' h => absurd h (Nat.not_lt_zero k)⟩
/-- H: before the new thing was made, H': behind it -/
theorem GroF.app {H1 H H' : Hp} {D y : Addr} {i : Nat} {adr : Nat → Addr} {R : Hp → Nat → Addr → Prop} (G : GroF H1 H D i adr R) (S : Same H H') (hy : H y = none) (hR : R (upd H' D (.lst (refsL i adr ++ [.ref y]))) i y)
    (m : ∀ k a, k < i → R H k a → R (upd H' D (.lst (refsL i adr ++ [.ref y]))) k a) (hl : ∀ k, k < i → H (adr k) ≠ none) : ∃ adr', GroF H1 (upd H' D (.lst (refsL i adr ++ [.ref y]))) D (i + 1) adr' R ∧ (∀ k, k < i → adr' k = adr k) ∧ adr' i = y := by
  refine ⟨fun k => if k = i then y else adr k, ⟨fun b o e => ?_, G.f, ?_, fun k hk => ?_, fun k hk => ?_, fun k hk => ?_, fun k k' hk hk' e => ?_⟩, fun k hk => if_neg (by omega), if_pos rfl⟩
  · rw [upd_ne (ne_of_none e G.f)]
    exact S _ _ (G.S _ _ e)
  · rw [upd_same]
    congr 2
    show _ = List.map _ _
    rw [List.range_succ, List.map_append]
    congr 1
    · refine List.map_congr_left fun k hk => ?_
      have := List.mem_range.mp hk
      show V.ref (adr k) = V.ref (if k = i then y else adr k)
      rw [if_neg (by omega)]
    · simp
  · by_cases c : k = i
    · subst c
      rw [if_pos rfl]
      exact hR
    · rw [if_neg c]
      exact m k _ (by omega) (G.r k (by omega))
  · by_cases c : k = i
    · rw [if_pos c]
      exact same_free G.S hy
    · rw [if_neg c]
      exact G.fr k (by omega)
  · by_cases c : k = i
    · rw [if_pos c]
      exact (ne_of_none G.d hy).symm
    · rw [if_neg c]
      exact G.ne k (by omega)
  · by_cases c : k = i
    · by_cases c' : k' = i
      · omega
      · rw [if_pos c, if_neg c'] at e
        exact absurd hy (by rw [e]; exact hl k' (by omega))
    · by_cases c' : k' = i
      · rw [if_neg c, if_pos c'] at e
        exact absurd hy (by rw [← e]; exact hl k (by omega))
      · rw [if_neg c, if_neg c'] at e
        exact G.inj k k' (by omega) (by omega) e
/-- a row of rows -/
def RowsT (n : Nat) (H1 : Hp) (H : Hp) (a : Addr) (ro : Nat → Addr) : Prop := H a = some (.lst (refsL n ro)) ∧ (∀ q, q < n → H (ro q) = some (.lst (boolsL n fun _ => true))) ∧ (∀ q, q < n → H1 (ro q) = none) ∧ ∀ q q', q < n → q' < n → ro q = ro q' → q = q'
end J

set_option Elab.async false
set_option linter.all false
set_option maxRecDepth 100000
set_option maxHeartbeats 8000000
namespace J
open PySem PySem.Spec PyProof.Rows L2
theorem refs_ne2 {i n : Nat} {g : Nat → Addr} {h : Nat → Bool} (hi : 0 < i) : (refsL i g) ≠ boolsL n h := fun e => by
  have e1 := congrArg (fun l : List V => l[0]?) e
  simp only [refs_at hi] at e1
  by_cases c : 0 < n
  · rw [bools_at c] at e1
    injection e1 with e1
    cases e1
  · rw [List.getElem?_eq_none (by rw [List.length_map, List.length_range]; omega)] at e1
    cases e1
abbrev trueL (n : Nat) : List V := boolsL n fun _ => true
abbrev TrueR (n : Nat) : Hp → Nat → Addr → Prop := fun H _ a => H a = some (.lst (trueL n))
structure OutI (n : Nat) (H1 H : Hp) (D : Addr) (i : Nat) (po : Nat → Addr) (ro : Nat → Nat → Addr) : Prop where
  S : Same H1 H
  f : H1 D = none
  d : H D = some (.lst (refsL i po))
  m : ∀ p, p < i → H (po p) = some (.lst (refsL n (ro p)))
  r : ∀ p q, p < i → q < n → H (ro p q) = some (.lst (trueL n))
  fr : ∀ p q, p < i → q < n → H1 (ro p q) = none
  ne : ∀ p, p < i → po p ≠ D
  ner : ∀ p q, p < i → q < n → ro p q ≠ D
  inj : ∀ p q p' q', p < i → q < n → p' < i → q' < n → ro p q = ro p' q' → p = p' ∧ q = q'
theorem OutI.app {n : Nat} {H1 H2 H3 : Hp} {D D2 : Addr} {i : Nat} {po : Nat → Addr} {ro : Nat → Nat → Addr} {adr : Nat → Addr} (O : OutI n H1 H2 D i po ro) (G : GroF H2 H3 D2 n adr (TrueR n)) :
    OutI n H1 (upd H3 D (.lst (refsL i po ++ [.ref D2]))) D (i + 1) (fun p => if p = i then D2 else po p) (fun p => if p = i then adr else ro p) := by
  have nD : D2 ≠ D := (ne_of_none O.d G.f).symm
  have nA : ∀ q, q < n → adr q ≠ D := fun q hq => (ne_of_none O.d (G.fr q hq)).symm
  refine ⟨fun b o e => ?_, O.f, ?_, fun p hp => ?_, fun p q hp hq => ?_, fun p q hp hq => ?_, fun p hp => ?_, fun p q hp hq => ?_, fun p q p' q' hp hq hp' hq' e => ?_⟩
  · rw [upd_ne (ne_of_none e O.f)]
    exact G.S _ _ (O.S _ _ e)
  · rw [upd_same]
    congr 2
    show _ = List.map _ _
    rw [List.range_succ, List.map_append]
    congr 1
    · refine List.map_congr_left fun k hk => ?_
      have := List.mem_range.mp hk
      show V.ref (po k) = V.ref (if k = i then D2 else po k)
      rw [if_neg (by omega)]
    · simp
  · by_cases c : p = i
    · simp only [if_pos c]
      rw [upd_ne nD]
      exact G.d
    · simp only [if_neg c]
      rw [upd_ne (O.ne p (by omega))]
      exact G.S _ _ (O.m p (by omega))
  · by_cases c : p = i
    · simp only [if_pos c]
      rw [upd_ne (nA q hq)]
      exact G.r q hq
    · simp only [if_neg c]
      rw [upd_ne (O.ner p q (by omega) hq)]
      exact G.S _ _ (O.r p q (by omega) hq)
  · by_cases c : p = i
    · simp only [if_pos c]
      exact same_free O.S (G.fr q hq)
    · simp only [if_neg c]
      exact O.fr p q (by omega) hq
  · by_cases c : p = i
    · simp only [if_pos c]
      exact nD
    · simp only [if_neg c]
      exact O.ne p (by omega)
  · by_cases c : p = i
    · simp only [if_pos c]
      exact nA q hq
    · simp only [if_neg c]
      exact O.ner p q (by omega) hq
  · by_cases c : p = i
    · by_cases c' : p' = i
      · simp only [if_pos c, if_pos c'] at e
        exact ⟨by omega, G.inj q q' hq hq' e⟩
      · simp only [if_pos c, if_neg c'] at e
        have := O.r p' q' (by omega) hq'
        rw [← e, G.fr q hq] at this
        cases this
    · by_cases c' : p' = i
      · simp only [if_neg c, if_pos c'] at e
        have := O.r p q (by omega) hq
        rw [e, G.fr q' hq'] at this
        cases this
      · simp only [if_neg c, if_neg c'] at e
        exact O.inj p q p' q' (by omega) hq (by omega) hq' e
theorem inT_nat {ns : List Int} {t : Int} (h : InT ns t) : ∃ k : Nat, t = (k : Int) ∧ k < ns.length := ⟨t.toNat, by have := h.1; omega, by have := h.1; have := h.2; omega⟩
theorem fB_any {ns : List Int} {ts : List (List Int)} (g : GoodB ns) (ha : ∀ u ∈ ts, u ∈ A3 ns.length ns.length) (p q r : Nat) : (!(ts.any (inR ns [(p : Int), (q : Int), (r : Int)]))) = fB (brd ns ts) p q r := by
  unfold fB
  congr 1
  rw [Bool.eq_iff_iff, decide_eq_true_iff, brd_mem g ha, List.any_eq_true]
section
variable {P : Program} {w : World} {K : PySem.W.Frag} {mg : Str → Option Value} {base : Heap}
theorem ok_Llet {f fR : Addr} {fd fdR : FuncData} (F : Fun K "_law_let" "_law_let" s_Llet f fd) (nl : mg "len" = none) (nr : mg "range" = none)
    (GR : Cal P w K mg base CX0 1 "_law_readings" fR fdR ["_law_backs_here", "_law_p", "_law_q", "_law_r"] spLR) : FnOk P w K mg base CX0 2 f fd ["_law_backs_here", "_law_classes_here"] spLL := by
  refine F.ok sc_Llet (fun vs H Q E h => ?_) (fun cdv A outer s H vs Q E hr h => ?_)
  · obtain ⟨b, c, ns, xs, ts, rfl, _⟩ := h
    rfl
  · obtain ⟨b, c, ns, xs, ts, rfl, hb, gb, hc, thr, hA, k⟩ := h
    have h4 := gb.hi
    have hn : 0 < ns.length := by have := gb.lo; omega
    refine ⟨_, (pss_cons 
  (ps_set (i := 2) sc_Llet.nd rfl (Or.inr rfl) (pe_callB call_len_seq (by rfl) nl PySem.boot_len (pa_cons (pv 0) pa_nil))) (pss_cons 
  (ps_setLc (i := 3) (own := [("_law_p", 7)]) (g := gName 7) rfl sc_Llet.nd rfl rfl (sw_true rfl rfl rfl (by decide +kernel)) (pi_range1 (by rfl) nr (pa_cons (pv 2) pa_nil)) (blkOk_by (own := [("_law_p", 7)]) (N := ["_law_backs_here", "_law_classes_here", "_law_many", "_law_let_here", "_law_three", "_law_reading", "_law_row", "_law_p", "_law_q", "_law_r"]) (sc := defScope s_Llet) (by decide +kernel)) (fun _ _ _ _ _ => pg_name (i := 7) sc_Llet.nd rfl (Or.inl rfl)) (fun _ _ _ _ _ => pts_nil) (fun _ _ _ _ _ => (pe_lc (own := [("_law_q", 8)]) (g := gName 8) (by rfl) sc_Llet.nd (pi_range1 (by rfl) nr (pa_cons (pv 2) pa_nil)) (blkOk_by (own := [("_law_q", 8)]) (N := ["_law_backs_here", "_law_classes_here", "_law_many", "_law_let_here", "_law_three", "_law_reading", "_law_row", "_law_p", "_law_q", "_law_r"]) (by rfl)) (fun _ _ _ _ _ => pg_name (i := 8) sc_Llet.nd rfl (Or.inl rfl)) (fun _ _ _ _ _ => pts_nil) (fun _ _ _ _ _ => (pe_lc (own := [("_law_r", 9)]) (g := gName 9) (by rfl) sc_Llet.nd (pi_range1 (by rfl) nr (pa_cons (pv 2) pa_nil)) (blkOk_by (own := [("_law_r", 9)]) (N := ["_law_backs_here", "_law_classes_here", "_law_many", "_law_let_here", "_law_three", "_law_reading", "_law_row", "_law_p", "_law_q", "_law_r"]) (by rfl)) (fun _ _ _ _ _ => pg_name (i := 9) sc_Llet.nd rfl (Or.inl rfl)) (fun _ _ _ _ _ => pts_nil) (fun _ _ _ _ _ => pe_bl)))))) (pss_cons 
  (ps_for PassesOwn.never rfl (pi_list (pv 1)) (pg_name (i := 4) sc_Llet.nd rfl (Or.inl rfl)) (pss_one 
    (ps_for PassesOwn.never rfl (pi_list (pcal GR hr pass0 (pa_cons (pv 0) (pa_cons (pe_ix (r := rIxS K) ix_seq (pv 4) pe_int (fun _ _ => rfl)) (pa_cons (pe_ix (r := rIxS K) ix_seq (pv 4) pe_int (fun _ _ => rfl)) (pa_cons (pe_ix (r := rIxS K) ix_seq (pv 4) pe_int (fun _ _ => rfl)) pa_nil)))))) (pg_name (i := 5) sc_Llet.nd rfl (Or.inl rfl)) (pss_cons 
      (ps_set (i := 6) sc_Llet.nd rfl (Or.inl rfl) (pe_ix ix_list (pe_ix ix_list (pv 3) (pe_ix ix_tup (pv 5) pe_int (fun _ _ => rfl)) (fun _ _ => rfl)) (pe_ix ix_tup (pv 5) pe_int (fun _ _ => rfl)) (fun _ _ => rfl))) (pss_one 
      (ps_asg pe_bl (pg_sub (pv 6) (pe_ix ix_tup (pv 5) pe_int (fun _ _ => rfl)) set_list))))))) (pss_one 
  (ps_ret (pv 3)))))), ?_⟩
    have lm : (ns.map V.int).length = ns.length := List.length_map _
    refine ⟨_, rfl, b, _, rfl, .inl (SqL.of hb), ?_⟩
    rw [lm]
    refine ⟨_, rfl, (ns.length : Nat), rfl, by omega, by omega, fun D hD => ?_⟩
    refine lc_range (lo := 0) (n := ns.length) (fun i H2 => ∃ po ro, OutI ns.length H H2 D i po ro)
      ⟨fun _ => 0, fun _ _ => 0, new_same hD, hD, upd_same, fun p h => absurd h (Nat.not_lt_zero p), fun p q h => absurd h (Nat.not_lt_zero p), fun p q h => absurd h (Nat.not_lt_zero p), fun p h => absurd h (Nat.not_lt_zero p), fun p q h => absurd h (Nat.not_lt_zero p), fun p q p' q' h => absurd h (Nat.not_lt_zero p)⟩ ?_ ?_
    · rintro i H2 hi ⟨po, ro, O⟩
      refine ⟨rfl, yesT ?_⟩
      refine ⟨_, rfl, (ns.length : Nat), rfl, by omega, by omega, fun D2 hD2 => ?_⟩
      refine lc_range (lo := 0) (n := ns.length) (fun j H3 => ∃ adr, GroF H2 H3 D2 j adr (TrueR ns.length)) ⟨fun _ => 0, GroF.nil hD2⟩ ?_ ?_
      · rintro j H3 hj ⟨adr, G⟩
        refine ⟨rfl, yesT ?_⟩
        refine ⟨_, rfl, (ns.length : Nat), rfl, by omega, by omega, fun D3 hD3 => ?_⟩
        refine lc_range (lo := 0) (n := ns.length) (fun l H4 => Same H3 H4 ∧ H3 D3 = none ∧ H4 D3 = some (.lst (trueL l))) ⟨new_same hD3, hD3, upd_same⟩ ?_ ?_
        · rintro l H4 hl ⟨S4, n4, e4⟩
          refine ⟨rfl, yesT ⟨_, e4, ?_, fun b o e => ?_, n4, ?_⟩⟩
          · rw [List.length_map, List.length_range]
            exact small1000 (by omega)
          · rw [upd_ne (ne_of_none e n4)]
            exact S4 _ _ e
          · rw [upd_same]
            show _ = some (HO.lst (List.map _ _))
            rw [List.range_succ, List.map_append]
            rfl
        · rintro H4 ⟨S4, n4, e4⟩
          have n32 : D3 ≠ D2 := (ne_of_none G.d hD3).symm
          obtain ⟨adr', G', _⟩ := G.app (H' := H4) (y := D3) S4 hD3 (by show upd _ _ _ _ = _; rw [upd_ne n32]; exact e4) (fun k' a hk' e => by
            show upd _ _ _ _ = _
            have e' : H3 a = some (.lst (trueL ns.length)) := e
            rw [upd_ne (fun z => by rw [z, G.d] at e'; injection e' with e'; injection e' with e'; exact refs_ne2 (by omega) e')]
            exact S4 _ _ e') (fun k' hk' z => by rw [G.r k' hk'] at z; cases z)
          refine ⟨refsL j adr, S4 _ _ G.d, ?_, adr', G'⟩
          rw [List.length_map, List.length_range]
          exact small1000 (by omega)
      · rintro H3 ⟨adr, G⟩
        refine ⟨refsL i po, G.S _ _ O.d, ?_, _, _, O.app G⟩
        rw [List.length_map, List.length_range]
        exact small1000 (by omega)
    · rintro H2 ⟨po, ro, O⟩
      have w0 : W3 H H2 D ns.length po ro (fun _ _ _ => true) := ⟨O.S, O.f, O.d, O.m, O.r, O.inj, O.fr⟩
      refine ⟨_, rfl, c, rfl, ⟨_, SqL.of (O.S _ _ hc)⟩, for_list (K := K) (a := c) (xs := xs) (fun i σ H' => ∃ v4 v5 v6 v7 v8 v9 : Option V, σ = [some (.ref b), some (.ref c), some (.int (ns.length : Nat)), some (.ref D), v4, v5, v6, v7, v8, v9] ∧ W3 H H' D ns.length po ro (fun p q r => !((ts.take i).any (inR ns [(p : Int), (q : Int), (r : Int)]))))
        ⟨_, _, _, _, _, _, rfl, w0.congr fun p q r _ _ _ => by simp⟩ (fun i σ H' _ ⟨_, _, _, _, _, _, _, w⟩ => SqL.of (w.S _ _ hc)) ?_ ?_⟩
      · rintro i y σ H3 hy ⟨v4, v5, v6, v7, v8, v9, rfl, w3⟩
        obtain ⟨t, et, sy, isy, sq, iy⟩ := paired_at (thr.keep w3.S) hy
        have mt := hA t (List.mem_of_getElem? et)
        obtain ⟨p, q, r, rfl, ip, iq, ir⟩ := A3_in mt (ns := ns) rfl
        obtain ⟨p, rfl, lp⟩ := inT_nat ip
        obtain ⟨q, rfl, lq⟩ := inT_nat iq
        obtain ⟨r, rfl, lr⟩ := inT_nat ir
        obtain ⟨zy, rfl⟩ : ∃ zy, y = .ref zy := by
          cases sy with
          | sc u => cases sq
          | dk => cases sq
          | lst us => obtain ⟨zy, e, _⟩ := isy; exact ⟨zy, e⟩
          | tup us => obtain ⟨zy, e, _⟩ := isy; exact ⟨zy, e⟩
        have sqy := is_seq (K := K) isy iy sq
        have ixy : ∀ (j : Nat) (v : V) (Q' : VK), (([(p : Int), (q : Int), (r : Int)] : List Int).map V.int)[j]? = some v → Q' v H3 → rIxS K (.ref zy) (.int (j : Nat)) H3 Q' := by
          intro j v Q' ej kq
          rcases sqy with h | h
          · exact .inl ⟨_, _, _, _, rfl, rfl, h, at_of (j := j) (v := v) rfl ej, kq⟩
          · exact .inr ⟨_, _, _, _, rfl, rfl, h, at_of (j := j) (v := v) rfl ej, kq⟩
        refine ⟨_, rfl, _, rfl, ixy 0 _ _ rfl ⟨_, rfl, ixy 1 _ _ rfl ⟨_, rfl, ixy 2 _ _ rfl ⟨b, ns, p, q, r, rfl, w3.S _ _ hb, gb, lp, lq, lr, fun H4 zr S4 nzr Lz => ?_⟩⟩⟩⟩
        obtain ⟨rs, d1, d2, d3⟩ := id Lz
        have w4 := w3.keep S4
        have zro : ∀ a b', a < ns.length → b' < ns.length → zr ≠ ro a b' := fun a b' ha hb' z => by
          have := w3.r a b' ha hb'
          rw [← z, nzr] at this
          cases this
        refine ⟨zr, rfl, ⟨_, SqL.of d1⟩, for_list (K := K) (a := zr) (xs := rs.map V.ref) (fun j σ H' => ∃ v5 v6 v7 v8 v9 : Option V, σ = [some (.ref b), some (.ref c), some (.int (ns.length : Nat)), some (.ref D), some (.ref zy), v5, v6, v7, v8, v9] ∧
            W3 H H' D ns.length po ro (fun a b' c' => !((ts.take i).any (inR ns [(a : Int), (b' : Int), (c' : Int)])) && !decide ([(a : Int), (b' : Int), (c' : Int)] ∈ (six ns p q r).take j)) ∧ ∀ u o, (∀ a b', a < ns.length → b' < ns.length → u ≠ ro a b') → H4 u = some o → H' u = some o)
          ⟨_, _, _, _, _, rfl, w4.congr fun a b' c' _ _ _ => by simp, fun u o _ e => e⟩ (fun j σ H' _ ⟨_, _, _, _, _, _, _, fr⟩ => SqL.of (fr _ _ zro d1)) ?_ ?_⟩
        · rintro j y2 σ H5 hy2 ⟨v5, v6, v7, v8, v9, rfl, w5, fr⟩
          rw [List.getElem?_map] at hy2
          cases ea : rs[j]? with
          | none =>
            rw [ea] at hy2
            cases hy2
          | some a0 =>
            rw [ea] at hy2
            obtain rfl : V.ref a0 = y2 := Option.some.inj hy2
            have lj := (List.getElem?_eq_some_iff.mp ea).1
            have el : (six ns p q r)[j]? = some (six ns p q r)[j] := List.getElem?_eq_getElem (by omega)
            generalize (six ns p q r)[j] = t2 at el
            have ha0 := d3 j a0 t2 ea el
            obtain ⟨x1, x2, x3, rfl, i1, i2, i3⟩ := six_in gb ip iq ir t2 (List.mem_of_getElem? el)
            obtain ⟨x1, rfl, l1⟩ := inT_nat i1
            obtain ⟨x2, rfl, l2⟩ := inT_nat i2
            obtain ⟨x3, rfl, l3⟩ := inT_nat i3
            have e0 := fr a0 _ (fun a b' ha hb' z => by
              have := w4.r a b' ha hb'
              rw [← z, ha0] at this
              cases this) ha0
            refine ⟨_, rfl, _, rfl, _, _, _, _, rfl, rfl, SqT.of e0, at_of (j := 0) (v := .int (x1 : Nat)) rfl rfl, _, _, _, _, rfl, rfl, SqL.of w5.o, at_of (j := x1) (v := .ref (po x1)) rfl (refs_at l1), _, rfl, _, _, _, _, rfl, rfl, SqT.of e0, at_of (j := 1) (v := .int (x2 : Nat)) rfl rfl, _, _, _, _, rfl, rfl, SqL.of (w5.m x1 l1), at_of (j := x2) (v := .ref (ro x1 x2)) rfl (refs_at l2), ?_⟩
            refine ⟨_, rfl, _, rfl, _, _, _, _, rfl, rfl, SqT.of e0, at_of (j := 2) (v := .int (x3 : Nat)) rfl rfl, ro x1 x2, _, _, x3, rfl, rfl, w5.r x1 x2 l1 l2, ixN_at (by omega) (by rw [List.length_map, List.length_range]; omega), ?_⟩
            refine ⟨_, _, _, _, _, rfl, (w5.set l1 l2).congr fun a b' c' _ _ _ => ?_, fun u o hu e => ?_⟩
            · rw [List.take_add_one, el, Bool.and_assoc]
              congr 1
              rw [← Bool.not_or]
              congr 1
              rw [Bool.eq_iff_iff, Bool.or_eq_true, decide_eq_true_iff, decide_eq_true_iff, decide_eq_true_iff]
              have cast : ∀ m n : Nat, ((m : Int) = (n : Int)) ↔ m = n := fun m n => by omega
              simp only [List.mem_append, List.mem_cons, List.not_mem_nil, or_false, Option.toList, List.cons.injEq, and_true, cast]
            · rw [upd_ne (hu x1 x2 l1 l2)]
              exact fr u o hu e
        · rintro σ H5 ⟨v5, v6, v7, v8, v9, rfl, w5, fr⟩
          refine ⟨_, _, _, _, _, _, rfl, w5.congr fun a b' c' _ _ _ => ?_⟩
          rw [List.length_map, d2, List.take_length, List.take_add_one, et, List.any_append, ← Bool.not_or]
          simp [inR]
      · rintro σ H3 ⟨v4, v5, v6, v7, v8, v9, rfl, w3⟩
        have e := thr.len
        rw [e, List.take_length] at w3
        exact ⟨_, rfl, k _ D po ro (w3.congr fun p q r _ _ _ => fB_any gb hA p q r)⟩
end
end J

set_option Elab.async false
set_option linter.all false
set_option maxRecDepth 100000
set_option maxHeartbeats 8000000
namespace J
open PySem PySem.Spec PyProof.Rows L2
/-- the world: backs and the table of what is let -/
def WAt (H : Hp) (w : Addr) (ns : List Int) (L : List (List Int)) : Prop := ∃ (b z : Addr) (po : Nat → Addr) (ro : Nat → Nat → Addr), H w = some (.tup [.ref b, .ref z]) ∧ H b = some (.lst (ns.map V.int)) ∧ H z = some (.lst (refsL ns.length po)) ∧
  (∀ p, p < ns.length → H (po p) = some (.lst (refsL ns.length (ro p)))) ∧ ∀ p q, p < ns.length → q < ns.length → H (ro p q) = some (.lst (boolsL ns.length (fB L p q)))
theorem WAt.keep {H H' : Hp} {w : Addr} {ns : List Int} {L : List (List Int)} (h : WAt H w ns L) (S : Same H H') : WAt H' w ns L := by
  obtain ⟨b, z, po, ro, a1, a2, a3, a4, a5⟩ := h
  exact ⟨b, z, po, ro, S _ _ a1, S _ _ a2, S _ _ a3, fun p hp => S _ _ (a4 p hp), fun p q hp hq => S _ _ (a5 p q hp hq)⟩
theorem W3.world {H0 H : Hp} {b z w : Addr} {ns : List Int} {po : Nat → Addr} {ro : Nat → Nat → Addr} {L : List (List Int)} (h : W3 H0 H z ns.length po ro (fB L)) (hb : H b = some (.lst (ns.map V.int))) (hw : H w = some (.tup [.ref b, .ref z])) : WAt H w ns L :=
  ⟨b, z, po, ro, hw, hb, h.o, h.m, h.r⟩
abbrev inL (L : List (List Int)) : List Int → Bool := fun t => decide (t ∈ L)
theorem filt1 {L : List (List Int)} {p q l : Nat} {M : List (List Int)} : (M ++ A1 p q (l + 1)).filter (inL L) = (M ++ A1 p q l).filter (inL L) ++ (if fB L p q l = true then [] else [[(p : Int), (q : Int), (l : Int)]]) := by
  rw [A1_succ, ← List.append_assoc, List.filter_append]
  congr 1
  unfold fB
  by_cases c : [(p : Int), (q : Int), (l : Int)] ∈ L
  · simp [c]
  · simp [c]
abbrev s_Lbarred : Stmt := top 36
theorem sc_Lbarred : FnScope ["_law_world", "_law_many", "_law_found", "_law_p", "_law_q", "_law_r"] ["_law_world"] (defScope s_Lbarred) := ⟨rfl, rfl, rfl, by decide +kernel, rfl, by decide +kernel, by decide +kernel⟩
def spLB : Sp := fun vs H Q _ => ∃ (w : Addr) (ns : List Int) (L : List (List Int)), vs = [.ref w] ∧ WAt H w ns L ∧ GoodB ns ∧ ∀ (H' : Hp) (z : Addr), Same H H' → H z = none → LstsAt H' z ((A3 ns.length ns.length).filter (inL L)) → Q (.ref z) H'
abbrev s_Lsame_barred : Stmt := top 39
theorem sc_Lsame_barred : FnScope ["_law_book", "_law_world", "_law_due"] ["_law_book", "_law_world"] (defScope s_Lsame_barred) := ⟨rfl, rfl, rfl, by decide +kernel, rfl, by decide +kernel, by decide +kernel⟩
def spLS (C CB : Addr) : Sp := fun vs H Q _ => ∃ (x w : Addr) (ns : List Int) (L : List (List Int)), vs = [.ref x, .ref w] ∧ BookAt C CB H x ns L ∧ WAt H w ns L ∧ GoodB ns ∧ (A3 ns.length ns.length).filter (inL L) = L ∧ ∀ H', Same H H' → Q (.bl true) H'
section
variable {P : Program} {w : World} {K : PySem.W.Frag} {mg : Str → Option Value} {base : Heap}
theorem ok_Lbarred {f : Addr} {fd : FuncData} (F : Fun K "_law_barred" "_law_barred" s_Lbarred f fd) (nl : mg "len" = none) (nr : mg "range" = none) : FnOk P w K mg base CX0 1 f fd ["_law_world"] spLB := by
  refine F.ok sc_Lbarred (fun vs H Q E h => ?_) (fun cdv A outer s H vs Q E hr h => ?_)
  · obtain ⟨w, ns, L, rfl, _⟩ := h
    rfl
  · obtain ⟨w, ns, L, rfl, hW, gb, k⟩ := h
    have h4 := gb.hi
    obtain ⟨b, z, po, ro, a1, a2, a3, a4, a5⟩ := id hW
    refine ⟨_, (pss_cons 
  (ps_set (i := 1) sc_Lbarred.nd rfl (Or.inl rfl) (pe_callB call_len_seq (by rfl) nl PySem.boot_len (pa_cons (pe_ix ix_tup (pv 0) pe_int (fun _ _ => rfl)) pa_nil))) (pss_cons 
  (ps_set (i := 2) sc_Lbarred.nd rfl (Or.inl rfl) (pe_lst pa_nil)) (pss_cons 
  (ps_for PassesOwn.never rfl (pi_range1 (by rfl) nr (pa_cons (pv 1) pa_nil)) (pg_name (i := 3) sc_Lbarred.nd rfl (Or.inr rfl)) (pss_one 
    (ps_for PassesOwn.never rfl (pi_range1 (by rfl) nr (pa_cons (pv 1) pa_nil)) (pg_name (i := 4) sc_Lbarred.nd rfl (Or.inr rfl)) (pss_one 
      (ps_set (i := 2) sc_Lbarred.nd rfl (Or.inl rfl) (pe_op op_cat (pv 2) (pe_lc (own := [("_law_r", 5)]) (g := gName 5) (by rfl) sc_Lbarred.nd (pi_range1 (by rfl) nr (pa_cons (pv 1) pa_nil)) (blkOk_by (own := [("_law_r", 5)]) (N := ["_law_world", "_law_many", "_law_found", "_law_p", "_law_q", "_law_r"]) (sc := defScope s_Lbarred) (by decide +kernel)) (fun _ _ _ _ _ => pg_name (i := 5) sc_Lbarred.nd rfl (Or.inl rfl)) (fun _ _ _ _ _ => pts_one (pt_not (pt_val (pe_ix (r := rIxL K) ix_list (pe_ix (r := rIxL K) ix_list (pe_ix (r := rIxL K) ix_list (pe_ix (r := rIxT K) ix_tup (pv 0) pe_int (fun _ _ => rfl)) (pv 3) (fun _ _ => rfl)) (pv 4) (fun _ _ => rfl)) (pv 5) (fun _ _ => rfl))))) (fun _ _ _ _ _ => (pe_tup (pa_cons (pv 3) (pa_cons (pv 4) (pa_cons (pv 5) pa_nil)))))))))))) (pss_one 
  (ps_ret (pv 2)))))), ?_⟩
    have lm : (ns.map V.int).length = ns.length := List.length_map _
    refine ⟨_, rfl, _, _, _, _, rfl, rfl, SqT.of a1, at_of (j := 0) (v := .ref b) rfl rfl, b, _, rfl, .inl (SqL.of a2), ?_⟩
    rw [lm]
    refine ⟨(by show 0 ≤ sizeLine; decide), fun D hD => ?_⟩
    refine ⟨_, rfl, (ns.length : Nat), rfl, by omega, by omega, for_range (lo := 0) (n := ns.length) (fun i σ H' => ∃ (D : Addr) (v3 v4 v5 : Option V), σ = [some (.ref w), some (.int (ns.length : Nat)), some (.ref D), v3, v4, v5] ∧ H D = none ∧ Same H H' ∧ LstsAt H' D ((A3 ns.length i).filter (inL L)))
      ⟨D, none, none, none, rfl, hD, new_same hD, [], upd_same, rfl, fun j a ts e => by simp at e⟩ ?_ ?_⟩
    · rintro i σ H2 hi ⟨D, v3, v4, v5, rfl, nD, S2, L2⟩
      refine ⟨_, rfl, (ns.length : Nat), rfl, by omega, by omega, for_range (lo := 0) (n := ns.length) (fun j σ H' => ∃ (D : Addr) (v4 v5 : Option V), σ = [some (.ref w), some (.int (ns.length : Nat)), some (.ref D), some (.int (0 + (i : Nat))), v4, v5] ∧ H D = none ∧ Same H H' ∧ LstsAt H' D ((A3 ns.length i ++ A2 ns.length i j).filter (inL L)))
        ⟨D, _, _, rfl, nD, S2, by unfold A2; simpa using L2⟩ ?_ ?_⟩
      · rintro j σ H3 hj ⟨D, v4, v5, rfl, nD, S3, L3⟩
        have c1 := S3 _ _ a1
        have c3 := S3 _ _ a3
        have c4 := S3 _ _ (a4 i hi)
        have c5 := S3 _ _ (a5 i j hi hj)
        refine ⟨_, rfl, _, rfl, (ns.length : Nat), rfl, by omega, by omega, fun D2 hD2 => ?_⟩
        refine lc_range (lo := 0) (n := ns.length) (fun l H4 => Gro H3 H4 D2 ((A1 i j l).filter (inL L))) (by unfold A1; exact Gro.nil hD2) ?_ ?_
        · intro l H4 hl G4
          have ln := A_len ns.length h4 i hi j hj l hl
          refine ⟨rfl, _, rfl, _, _, _, _, rfl, rfl, SqT.of (G4.S _ _ c1), at_of (j := 1) (v := .ref z) rfl rfl, _, rfl, _, _, _, _, rfl, rfl, SqL.of (G4.S _ _ c3), at_of (j := i) (v := .ref (po i)) (by rw [Int.zero_add]) (refs_at hi), _, rfl, _, _, _, _, rfl, rfl, SqL.of (G4.S _ _ c4), at_of (j := j) (v := .ref (ro i j)) (by rw [Int.zero_add]) (refs_at hj), _, rfl, _, _, _, _, rfl, rfl, SqL.of (G4.S _ _ c5), at_of (j := l) (v := .bl (fB L i j l)) (by rw [Int.zero_add]) (bools_at hl), _, rfl, ?_⟩
          have nx := filt1 (L := L) (p := i) (q := j) (l := l) (M := [])
          rw [List.nil_append, List.nil_append] at nx
          cases hc : fB L i j l with
          | true =>
            refine iteF ?_
            rw [nx, if_pos hc, List.append_nil]
            exact G4
          | false =>
            refine iteT ⟨_, rfl, _, rfl, _, rfl, (by show 3 ≤ sizeLine; decide), fun u hu => ?_⟩
            obtain ⟨acc, q1, q2, q3⟩ := G4.snoc (ts := [(i : Int), (j : Int), (l : Int)]) hu
            have e3 : ([(i : Int), (j : Int), (l : Int)].map V.int) = [V.int (0 + (i : Nat)), V.int (0 + (j : Nat)), V.int (0 + (l : Nat))] := by simp
            rw [e3] at q1 q3
            have fl := List.length_filter_le (inL L) (A1 i j l)
            refine ⟨acc, q1, ?_, ?_⟩
            · rw [q2]
              have : (A1 i j l).length ≤ (A3 ns.length i ++ A2 ns.length i j ++ A1 i j l).length := by rw [List.length_append]; omega
              exact small1000 (by omega)
            · rw [nx, if_neg (by rw [hc]; decide)]
              exact q3
        · rintro H4 G4
          obtain ⟨xs1, d1, d2, d3⟩ := L3.keep G4.S
          obtain ⟨xs2, f1, f2, f3⟩ := id G4.d
          have len2 := A_len2 ns.length h4 i hi j hj
          have fl1 := List.length_filter_le (inL L) (A3 ns.length i ++ A2 ns.length i j)
          have fl2 := List.length_filter_le (inL L) (A1 i j ns.length)
          refine ⟨D, D2, _, _, rfl, rfl, d1, f1, ?_, fun D3 hD3 => ?_⟩
          · rw [List.length_map, List.length_map, d2, f2, sizeLine_eq]
            omega
          · refine ⟨D3, _, _, rfl, same_free S3 (same_free G4.S hD3), (S3.trans G4.S).trans (new_same hD3), ?_⟩
            have e : (A3 ns.length i ++ A2 ns.length i (j + 1)).filter (inL L) = (A3 ns.length i ++ A2 ns.length i j).filter (inL L) ++ (A1 i j ns.length).filter (inL L) := by
              rw [A2_succ, ← List.append_assoc, List.filter_append]
            rw [e]
            exact LstsAt.app ⟨xs1, d1, d2, d3⟩ G4.lsts d1 f1 (new_same hD3) upd_same
      · rintro σ H3 ⟨D, v4, v5, rfl, nD, S3, L3⟩
        refine ⟨D, _, _, _, rfl, nD, S3, ?_⟩
        rw [A3_succ]
        exact L3
    · rintro σ H2 ⟨D, v3, v4, v5, rfl, nD, S2, L2⟩
      exact ⟨_, rfl, k _ D S2 nD L2⟩
theorem ok_Lsame_barred {f C CB fB fP fP' : Addr} {fd fdB fdP fdP' : FuncData} (F : Fun K "_law_same_barred" "_law_same_barred" s_Lsame_barred f fd) (T : TiC K C) (c : BoX K mg CB) (nis : mg "isinstance" = none) (nt : mg "tuple" = none)
    (GB : Cal P w K mg base CX0 1 "_law_barred" fB fdB ["_law_world"] spLB) (GP2 : Cal P w K mg base CX0 3 "_law_plain" fP fdP ["_law_answer", "_law_due"] spP2) (GP1 : Cal P w K mg base CX0 2 "_law_plain" fP' fdP' ["_law_answer", "_law_due"] spP1) :
    FnOk P w K mg base CX0 4 f fd ["_law_book", "_law_world"] (spLS C CB) := by
  refine F.ok sc_Lsame_barred (fun vs H Q E h => ?_) (fun cdv A outer s H vs Q E hr h => ?_)
  · obtain ⟨x, w, ns, L, rfl, _⟩ := h
    rfl
  · obtain ⟨x, w, ns, L, rfl, hB, hW, gb, hL, k⟩ := h
    refine ⟨_, (pss_cons 
  (ps_set (i := 2) sc_Lsame_barred.nd rfl (Or.inl rfl) (pe_callTy (T := "tuple") (r := rTup K) call_tuple_of (by rfl) nt (by decide +kernel) (pa_cons (pcal GB hr pass0 (pa_cons (pv 1) pa_nil)) pa_nil))) (pss_one 
  (ps_ret (pe_and (pe_callB call_isi (by rfl) nis (by decide +kernel) (pa_cons (pv 0) (pa_cons (pe_glob (v := .ref CB) rfl c.mB rfl) pa_nil))) (pe_and (pcal GP2 hr pass0 (pa_cons (pe_fld (pv 0) rfl) (pa_cons (pv 2) pa_nil))) (pe_one (pcal GP1 hr pass0 (pa_cons (pe_fld (pe_fld (pv 0) rfl) rfl) (pa_cons (pe_callTy (T := "tuple") (r := rTup K) call_tuple_of (by rfl) nt (by decide +kernel) (pa_cons (pe_ix ix_tup (pv 1) pe_int (fun _ _ => rfl)) pa_nil)) pa_nil))))))))), ?_⟩
    refine ⟨_, rfl, w, ns, L, rfl, hW, gb, fun H1 z S1 nz Lz => ?_⟩
    rw [hL] at Lz
    obtain ⟨ps, d1, d2, d3⟩ := id Lz
    refine ⟨z, _, rfl, .inl ⟨SqL.of d1, fun u hu => ?_⟩⟩
    have S2 : Same H1 (upd H1 u (.tup (ps.map V.ref))) := new_same hu
    have TU : TupsAt (upd H1 u (.tup (ps.map V.ref))) u L := Lz.tup d1 hu
    generalize upd H1 u (.tup (ps.map V.ref)) = H2 at S2 TU
    obtain ⟨dx, t, b, l, r, a1, a2, a3, a4, a5⟩ := hB.keep (S1.trans S2)
    refine ⟨_, rfl, _, _, _, _, true, rfl, .own CB, .base (.ins a1 c.cl c.isc.ha c.isc.hn c.isc.htk c.isc.hm), c.isc.me, _, rfl, if_tr rfl ?_⟩
    refine ⟨_, rfl, x, CB, dx, _, _, rfl, a1, c.cl, c.nB, bf_barred _ _ _ _, _, rfl, b, u, L, rfl, a3, TU, fun H3 S3 => ⟨_, rfl, if_tr rfl ?_⟩⟩
    obtain ⟨dt, tb, w1, w2⟩ := a2.keep S3
    obtain ⟨bb, zz, po, ro, c1, c2, _⟩ := hW.keep ((S1.trans S2).trans S3)
    refine ⟨_, rfl, x, CB, dx, _, _, rfl, S3 _ _ a1, c.cl, c.nT, bf_ties _ _ _ _, t, C, dt, _, _, rfl, w1, T.cl, T.nB, tf_backs _ _, _, rfl, _, _, _, _, rfl, rfl, SqT.of c1, at_of (j := 0) (v := .ref bb) rfl rfl, bb, _, rfl, .inl ⟨SqL.of c2, fun y hy => ?_⟩⟩
    have S4 : Same H3 (upd H3 y (.tup (ns.map V.int))) := new_same hy
    exact ⟨tb, y, ns, rfl, S4 _ _ w2, upd_same, fun H5 S5 => k _ ((((S1.trans S2).trans S3).trans S4).trans S5)⟩
end
end J

set_option Elab.async false
set_option linter.all false
set_option maxRecDepth 100000
set_option maxHeartbeats 8000000
namespace J
open PySem PySem.Spec PyProof.Rows L2
/-! ### couples: the mathematics -/
def B1 (q j : Nat) : List (List Int) := (List.range j).map fun r : Nat => [(q : Int), (r : Int)]
def B2 (n k : Nat) : List (List Int) := (List.range k).flatMap fun q => B1 q n
theorem B1_succ (q k : Nat) : B1 q (k + 1) = B1 q k ++ [[(q : Int), (k : Int)]] := by
  unfold B1
  rw [List.range_succ, List.map_append]
  rfl
theorem B2_succ (n j : Nat) : B2 n (j + 1) = B2 n j ++ B1 j n := by
  unfold B2
  rw [List.range_succ, List.flatMap_append]
  simp
theorem B2_mem {n : Nat} {t : List Int} : t ∈ B2 n n ↔ ∃ q r : Nat, q < n ∧ r < n ∧ t = [(q : Int), (r : Int)] := by
  unfold B2 B1
  simp only [List.mem_flatMap, List.mem_map, List.mem_range]
  constructor
  · rintro ⟨q, hq, r, hr, rfl⟩
    exact ⟨q, r, hq, hr, rfl⟩
  · rintro ⟨q, r, hq, hr, rfl⟩
    exact ⟨q, hq, r, hr, rfl⟩
theorem B2_asc : ∀ n, n ≤ 4 → (B2 n n).Pairwise (fun a b => TS.code 4 a < TS.code 4 b) := by decide +kernel
theorem B_len : ∀ n, n ≤ 4 → ∀ j, j < n → (B2 n j).length + (B1 j n).length ≤ 16 := by decide +kernel
theorem B1_len (q j : Nat) : (B1 q j).length = j := by simp [B1]
abbrev inP (L : List (List Int)) (p : Nat) : List Int → Bool := fun t => decide (t ++ [(p : Int)] ∈ L)
theorem filt2 {L : List (List Int)} {p q l : Nat} : (B1 q (l + 1)).filter (inP L p) = (B1 q l).filter (inP L p) ++ (if fB L q l p = true then [] else [[(q : Int), (l : Int)]]) := by
  rw [B1_succ, List.filter_append]
  congr 1
  unfold fB
  by_cases c : [(q : Int), (l : Int), (p : Int)] ∈ L
  · simp [c]
  · simp [c]
theorem code2 (a b : Int) : TS.code 4 [a, b] = a * 4 + b := by
  show a * 4 ^ 1 + (b * 4 ^ 0 + 0) = _
  have e1 : (4 : Int) ^ 1 = 4 := by decide
  have e0 : (4 : Int) ^ 0 = 1 := by decide
  rw [e1, e0]
  omega
theorem cpl_B2 {n p : Nat} {L : List (List Int)} (hn : n ≤ 4) (hL : (A3 n n).filter (inL L) = L) : cplL L p = (B2 n n).filter (inP L p) := by
  have LA : ∀ t ∈ L, ∃ a b c : Nat, a < n ∧ b < n ∧ c < n ∧ t = [(a : Int), (b : Int), (c : Int)] := fun t ht => by
    rw [← hL] at ht
    obtain ⟨a, b, c, ha, hb, hc, e⟩ := A3_mem.mp (List.mem_filter.mp ht).1
    exact ⟨a, b, c, ha, hb, hc, e⟩
  refine asc_unique (f := TS.code 4) ?_ ((B2_asc n hn).sublist List.filter_sublist) fun t => ?_
  · unfold cplL
    rw [List.pairwise_map]
    have pw : L.Pairwise (fun a b => TS.code 4 a < TS.code 4 b) := by
      rw [← hL]
      exact (A3_asc n hn).sublist List.filter_sublist
    refine (pw.sublist List.filter_sublist).imp_of_mem fun {x y} hx hy h => ?_
    obtain ⟨mx, ex⟩ := List.mem_filter.mp hx
    obtain ⟨my, ey⟩ := List.mem_filter.mp hy
    obtain ⟨a, b, c, _, _, _, rfl⟩ := LA x mx
    obtain ⟨a', b', c', _, _, _, rfl⟩ := LA y my
    have ex : (c : Int) = p := by simpa using ex
    have ey : (c' : Int) = p := by simpa using ey
    rw [code3, code3] at h
    show TS.code 4 [(a : Int), (b : Int)] < TS.code 4 [(a' : Int), (b' : Int)]
    rw [code2, code2]
    omega
  · rw [List.mem_filter, B2_mem]
    unfold cplL
    constructor
    · intro h
      obtain ⟨x, hx, rfl⟩ := List.mem_map.mp h
      obtain ⟨mx, ex⟩ := List.mem_filter.mp hx
      obtain ⟨a, b, c, ha, hb, hc, rfl⟩ := LA x mx
      have ex : (c : Int) = p := by simpa using ex
      exact ⟨⟨a, b, ha, hb, rfl⟩, decide_eq_true (by show [(a : Int), (b : Int), (p : Int)] ∈ L; rw [← ex]; exact mx)⟩
    · rintro ⟨⟨q, r, hq, hr, rfl⟩, e⟩
      have e : [(q : Int), (r : Int), (p : Int)] ∈ L := of_decide_eq_true e
      exact List.mem_map.mpr ⟨_, List.mem_filter.mpr ⟨e, by simp⟩, rfl⟩
theorem first_no {ns : List Int} {ys : List V} {y : V} {A : Prop} (h : ∀ y ∈ ys, tieB ns y = true) (f : FirstNo ns ys y) : A := by
  obtain ⟨j, e1, e2, _⟩ := f
  rw [h y (List.mem_of_getElem? e1)] at e2
  cases e2
theorem tie_z {ns : List Int} {i : Nat} (h : i < ns.length) : tieB ns (.int (0 + (i : Nat))) = true := by
  rw [Int.zero_add]
  exact tie_nat h
theorem kn_int {H : Hp} (i : Int) : ∃ s, Is H (.int i) s := ⟨.sc (.int i), rfl, rfl⟩
theorem z_eq {i p : Nat} (e : V.int (0 + (i : Nat)) = V.int (p : Nat)) : p = i := by
  injection e with e
  omega
theorem fit_step {L : List (List Int)} {p q i : Nat} : fitL L (i + 1) p q = fitL L i p q ++ (if fB L p q i = true then [(i : Int)] else []) := by
  unfold fitL
  rw [fit_take, List.map_append]
  congr 1
  unfold fB
  split <;> rfl
abbrev s_Ltells : Stmt := top 45
theorem sc_Ltells : FnScope ["_law_book", "_law_world", "_law_many", "_law_p", "_law_couples", "_law_q", "_law_fitting", "_law_r"] ["_law_book", "_law_world"] (defScope s_Ltells) := ⟨rfl, rfl, rfl, by decide +kernel, rfl, by decide +kernel, by decide +kernel⟩
section
variable {P : Program} {w : World} {K : PySem.W.Frag} {mg : Str → Option Value} {base : Heap}
theorem ok_Ltells {f C CB CN fF fA fR fP fP' fP0 : Addr} {fd fdF fdA fdR fdP fdP' fdP0 : FuncData} (F : Fun K "_law_tells" "_law_tells" s_Ltells f fd) (c : BoC K CB) (nt : mg "tuple" = none) (nl : mg "len" = none) (nr : mg "range" = none)
    (GF : Mt P w K mg base (L2.CX P w) 4 CB "fitting" fF fdF ["self", "p", "q"] (spFit C CB CN)) (GA : Mt P w K mg base (L2.CX P w) 4 CB "bars" fA fdA ["self", "p", "q", "r"] (spBars C CB CN)) (GR : Mt P w K mg base (L2.CX P w) 4 CB "barring" fR fdR ["self", "t"] (spBarring C CB CN))
    (GP2 : Cal P w K mg base CX0 3 "_law_plain" fP fdP ["_law_answer", "_law_due"] spP2) (GP1 : Cal P w K mg base CX0 2 "_law_plain" fP' fdP' ["_law_answer", "_law_due"] spP1) (GP0 : Cal P w K mg base CX0 1 "_law_plain" fP0 fdP0 ["_law_answer", "_law_due"] spP0) :
    FnOk P w K mg base CX0 5 f fd ["_law_book", "_law_world"] (spLS C CB) := by
  refine F.ok sc_Ltells (fun vs H Q E h => ?_) (fun cdv A outer s H vs Q E hr h => ?_)
  · obtain ⟨x, w, ns, L, rfl, _⟩ := h
    rfl
  · obtain ⟨x, w, ns, L, rfl, hB, hW, gb, hL, k⟩ := h
    have h4 := gb.hi
    have LA : ∀ t ∈ L, t ∈ A3 ns.length ns.length := fun t ht => by rw [← hL] at ht; exact (List.mem_filter.mp ht).1
    have l64 : L.length ≤ 64 := by rw [← hL]; exact Nat.le_trans (List.length_filter_le _ _) (A3_len _ h4)
    obtain ⟨b, z, po, ro, a1, a2, a3, a4, a5⟩ := id hW
    obtain ⟨dx, bt, bb, bl, br, B1', B2', B3, B4, B5⟩ := id hB
    refine ⟨_, (pss_cons 
  (ps_set (i := 2) sc_Ltells.nd rfl (Or.inl rfl) (pe_callB call_len_seq (by rfl) nl PySem.boot_len (pa_cons (pe_ix ix_tup (pv 1) pe_int (fun _ _ => rfl)) pa_nil))) (pss_cons 
  (ps_for PassesOwn.never rfl (pi_range1 (by rfl) nr (pa_cons (pv 2) pa_nil)) (pg_name (i := 3) sc_Ltells.nd rfl (Or.inr rfl)) (pss_cons 
    (ps_set (i := 4) sc_Ltells.nd rfl (Or.inl rfl) (pe_lst pa_nil)) (pss_cons 
    (ps_for PassesOwn.never rfl (pi_range1 (by rfl) nr (pa_cons (pv 2) pa_nil)) (pg_name (i := 5) sc_Ltells.nd rfl (Or.inr rfl)) (pss_cons 
      (ps_set (i := 6) sc_Ltells.nd rfl (Or.inl rfl) (pe_callTy (T := "tuple") (r := rTup K) call_tuple_of (by rfl) nt (by decide +kernel) (pa_cons (pe_lc (own := [("_law_r", 7)]) (g := gName 7) (by rfl) sc_Ltells.nd (pi_range1 (by rfl) nr (pa_cons (pv 2) pa_nil)) (blkOk_by (own := [("_law_r", 7)]) (N := ["_law_book", "_law_world", "_law_many", "_law_p", "_law_couples", "_law_q", "_law_fitting", "_law_r"]) (sc := defScope s_Ltells) (by decide +kernel)) (fun _ _ _ _ _ => pg_name (i := 7) sc_Ltells.nd rfl (Or.inl rfl)) (fun _ _ _ _ _ => pts_one (pt_val (pe_ix (r := rIxL K) ix_list (pe_ix (r := rIxL K) ix_list (pe_ix (r := rIxL K) ix_list (pe_ix (r := rIxT K) ix_tup (pv 1) pe_int (fun _ _ => rfl)) (pv 3) (fun _ _ => rfl)) (pv 5) (fun _ _ => rfl)) (pv 7) (fun _ _ => rfl)))) (fun _ _ _ _ _ => (pv 7))) pa_nil))) (pss_cons 
      (ps_if (pt_not (pt_val (pcal GP1 hr pass0 (pa_cons (pe_meth (pv 0) c.cl GF.M GF.F hr GF.b .nil passL (pa_cons (pv 3) (pa_cons (pv 5) pa_nil))) (pa_cons (pv 6) pa_nil))))) (pss_one 
        (ps_ret pe_bl)) pss_nil) (pss_cons 
      (ps_set (i := 4) sc_Ltells.nd rfl (Or.inl rfl) (pe_op op_cat (pv 4) (pe_lc (own := [("_law_r", 7)]) (g := gName 7) (by rfl) sc_Ltells.nd (pi_range1 (by rfl) nr (pa_cons (pv 2) pa_nil)) (blkOk_by (own := [("_law_r", 7)]) (N := ["_law_book", "_law_world", "_law_many", "_law_p", "_law_couples", "_law_q", "_law_fitting", "_law_r"]) (sc := defScope s_Ltells) (by decide +kernel)) (fun _ _ _ _ _ => pg_name (i := 7) sc_Ltells.nd rfl (Or.inl rfl)) (fun _ _ _ _ _ => pts_one (pt_not (pt_val (pe_ix (r := rIxL K) ix_list (pe_ix (r := rIxL K) ix_list (pe_ix (r := rIxL K) ix_list (pe_ix (r := rIxT K) ix_tup (pv 1) pe_int (fun _ _ => rfl)) (pv 5) (fun _ _ => rfl)) (pv 7) (fun _ _ => rfl)) (pv 3) (fun _ _ => rfl))))) (fun _ _ _ _ _ => (pe_tup (pa_cons (pv 5) (pa_cons (pv 7) pa_nil))))))) (pss_one 
      (ps_for PassesOwn.never rfl (pi_range1 (by rfl) nr (pa_cons (pv 2) pa_nil)) (pg_name (i := 7) sc_Ltells.nd rfl (Or.inl rfl)) (pss_one 
        (ps_if (pt_not (pt_val (pcal GP0 hr pass0 (pa_cons (pe_meth (pv 0) c.cl GA.M GA.F hr GA.b .nil passL (pa_cons (pv 3) (pa_cons (pv 5) (pa_cons (pv 7) pa_nil)))) (pa_cons (pe_not (pe_ix ix_list (pe_ix ix_list (pe_ix ix_list (pe_ix ix_tup (pv 1) pe_int (fun _ _ => rfl)) (pv 3) (fun _ _ => rfl)) (pv 5) (fun _ _ => rfl)) (pv 7) (fun _ _ => rfl))) pa_nil))))) (pss_one 
          (ps_ret pe_bl)) pss_nil)))))))) (pss_one 
    (ps_if (pt_not (pt_val (pcal GP2 hr pass0 (pa_cons (pe_meth (pv 0) c.cl GR.M GR.F hr GR.b .nil passL (pa_cons (pv 3) pa_nil)) (pa_cons (pe_callTy (T := "tuple") (r := rTup K) call_tuple_of (by rfl) nt (by decide +kernel) (pa_cons (pv 4) pa_nil)) pa_nil))))) (pss_one 
      (ps_ret pe_bl)) pss_nil))))) (pss_one 
  (ps_ret pe_bl)))), ?_⟩
    have lm : (ns.map V.int).length = ns.length := List.length_map _
    have nob : ∀ t b l r, (bf t b l r).lookup ("fitting" : Str) = none ∧ (bf t b l r).lookup ("bars" : Str) = none ∧ (bf t b l r).lookup ("barring" : Str) = none := fun t b l r =>
      ⟨bf_no _ _ _ _ (by decide +kernel) (by decide +kernel) (by decide +kernel) (by decide +kernel), bf_no _ _ _ _ (by decide +kernel) (by decide +kernel) (by decide +kernel) (by decide +kernel), bf_no _ _ _ _ (by decide +kernel) (by decide +kernel) (by decide +kernel) (by decide +kernel)⟩
    refine ⟨_, rfl, _, _, _, _, rfl, rfl, SqT.of a1, at_of (j := 0) (v := .ref b) rfl rfl, b, _, rfl, .inl (SqL.of a2), ?_⟩
    rw [lm]
    refine ⟨_, rfl, (ns.length : Nat), rfl, by omega, by omega, for_range (lo := 0) (n := ns.length) (fun i σ H' => ∃ v3 v4 v5 v6 v7 : Option V, σ = [some (.ref x), some (.ref w), some (.int (ns.length : Nat)), v3, v4, v5, v6, v7] ∧ Same H H')
      ⟨_, _, _, _, _, rfl, Same.refl _⟩ ?_ ?_⟩
    · rintro i σ H2 hi ⟨v3, v4, v5, v6, v7, rfl, S2⟩
      refine ⟨(by show 0 ≤ sizeLine; decide), fun D hD => ?_⟩
      have n0 : H D = none := same_free S2 hD
      refine ⟨_, rfl, (ns.length : Nat), rfl, by omega, by omega, for_range (lo := 0) (n := ns.length) (fun j σ H' => ∃ (D : Addr) (v5 v6 v7 : Option V), σ = [some (.ref x), some (.ref w), some (.int (ns.length : Nat)), some (.int (0 + (i : Nat))), some (.ref D), v5, v6, v7] ∧ Same H H' ∧ LstsAt H' D ((B2 ns.length j).filter (inP L i)))
        ⟨D, _, _, _, rfl, S2.trans (new_same hD), [], upd_same, rfl, fun j a ts e => by simp at e⟩ ?_ ?_⟩
      · rintro j σ H3 hj ⟨D, v5, v6, v7, rfl, S3, L3⟩
        refine ⟨_, rfl, (ns.length : Nat), rfl, by omega, by omega, fun D2 hD2 => ?_⟩
        refine lc_range (lo := 0) (n := ns.length) (fun l H4 => Same H3 H4 ∧ H3 D2 = none ∧ H4 D2 = some (.lst ((fitL L l i j).map V.int))) ⟨new_same hD2, hD2, upd_same⟩ ?_ ?_
        · rintro l H4 hl ⟨S4, n4, e4⟩
          have SA := S3.trans S4
          refine ⟨rfl, _, rfl, _, _, _, _, rfl, rfl, SqT.of (SA _ _ a1), at_of (j := 1) (v := .ref z) rfl rfl, _, rfl, _, _, _, _, rfl, rfl, SqL.of (SA _ _ a3), at_of (j := i) (v := .ref (po i)) (by rw [Int.zero_add]) (refs_at hi), _, rfl, _, _, _, _, rfl, rfl, SqL.of (SA _ _ (a4 i hi)), at_of (j := j) (v := .ref (ro i j)) (by rw [Int.zero_add]) (refs_at hj), _, rfl, _, _, _, _, rfl, rfl, SqL.of (SA _ _ (a5 i j hi hj)), at_of (j := l) (v := .bl (fB L i j l)) (by rw [Int.zero_add]) (bools_at hl), _, rfl, ?_⟩
          cases hc : fB L i j l with
          | true =>
            refine iteT ⟨_, rfl, _, e4, ?_, fun b o e => ?_, n4, ?_⟩
            · rw [List.length_map]
              have := fit_len (L := L) (p := i) (q := j) (i := l)
              exact small1000 (by omega)
            · rw [upd_ne (ne_of_none e n4)]
              exact S4 _ _ e
            · rw [upd_same, fit_step, if_pos hc, List.map_append]
              simp
          | false =>
            refine iteF ⟨S4, n4, ?_⟩
            rw [fit_step, if_neg (by rw [hc]; decide), List.append_nil]
            exact e4
        · rintro H4 ⟨S4, n4, e4⟩
          refine ⟨D2, _, rfl, .inl ⟨SqL.of e4, fun u hu => ?_⟩⟩
          have S5 : Same H4 (upd H4 u (.tup ((fitL L ns.length i j).map V.int))) := new_same hu
          have e5 : (upd H4 u (.tup ((fitL L ns.length i j).map V.int))) u = some (.tup ((fitL L ns.length i j).map V.int)) := upd_same
          generalize upd H4 u (.tup ((fitL L ns.length i j).map V.int)) = H5 at S5 e5
          have SB := (S3.trans S4).trans S5
          refine ⟨_, rfl, x, dx, _, rfl, SB _ _ B1', (nob _ _ _ _).1, _, rfl, _, rfl, x, ns, L, _, _, rfl, hB.keep SB, gb, fun y hy => ?_, fun y hy => first_no (fun y hy => ?_) hy, fun p q ep eq lp lq H6 zz S6 nzz ezz => ?_⟩
          · simp only [List.mem_cons, List.not_mem_nil, or_false] at hy
            rcases hy with rfl | rfl <;> exact kn_int _
          · simp only [List.mem_cons, List.not_mem_nil, or_false] at hy
            rcases hy with rfl | rfl
            · exact tie_z hi
            · exact tie_z hj
          obtain rfl := z_eq ep
          obtain rfl := z_eq eq
          refine ⟨_, rfl, zz, u, _, rfl, ezz, S6 _ _ e5, fun H7 S7 => ⟨_, rfl, iteF ?_⟩⟩
          have SC := (SB.trans S6).trans S7
          have L7 := L3.keep (((S4.trans S5).trans S6).trans S7)
          refine ⟨_, rfl, _, rfl, (ns.length : Nat), rfl, by omega, by omega, fun D3 hD3 => ?_⟩
          refine lc_range (lo := 0) (n := ns.length) (fun l H8 => Gro H7 H8 D3 ((B1 q l).filter (inP L p))) (by unfold B1; exact Gro.nil hD3) ?_ ?_
          · intro l H8 hl G8
            have SD := SC.trans G8.S
            refine ⟨rfl, _, rfl, _, _, _, _, rfl, rfl, SqT.of (SD _ _ a1), at_of (j := 1) (v := .ref z) rfl rfl, _, rfl, _, _, _, _, rfl, rfl, SqL.of (SD _ _ a3), at_of (j := q) (v := .ref (po q)) (by rw [Int.zero_add]) (refs_at hj), _, rfl, _, _, _, _, rfl, rfl, SqL.of (SD _ _ (a4 q hj)), at_of (j := l) (v := .ref (ro q l)) (by rw [Int.zero_add]) (refs_at hl), _, rfl, _, _, _, _, rfl, rfl, SqL.of (SD _ _ (a5 q l hj hl)), at_of (j := p) (v := .bl (fB L q l p)) (by rw [Int.zero_add]) (bools_at hi), _, rfl, ?_⟩
            cases hc : fB L q l p with
            | true =>
              refine iteF ?_
              rw [filt2, if_pos hc, List.append_nil]
              exact G8
            | false =>
              refine iteT ⟨_, rfl, _, rfl, (by show 2 ≤ sizeLine; decide), fun y hy => ?_⟩
              obtain ⟨acc, q1, q2, q3⟩ := G8.snoc (ts := [(q : Int), (l : Int)]) hy
              have e3 : ([(q : Int), (l : Int)].map V.int) = [V.int (0 + (q : Nat)), V.int (0 + (l : Nat))] := by simp
              rw [e3] at q1 q3
              have fl := List.length_filter_le (inP L p) (B1 q l)
              rw [B1_len] at fl
              refine ⟨acc, q1, by rw [q2]; exact small1000 (by omega), ?_⟩
              rw [filt2, if_neg (by rw [hc]; decide)]
              exact q3
          · rintro H8 G8
            obtain ⟨xs1, d1, d2, d3⟩ := L7.keep G8.S
            obtain ⟨xs2, f1, f2, f3⟩ := id G8.d
            have bl := B_len ns.length h4 q hj
            have fl1 := List.length_filter_le (inP L p) (B2 ns.length q)
            have fl2 := List.length_filter_le (inP L p) (B1 q ns.length)
            refine ⟨D, D3, _, _, rfl, rfl, d1, f1, ?_, fun D4 hD4 => ?_⟩
            · rw [List.length_map, List.length_map, d2, f2, sizeLine_eq]
              omega
            have L9 : LstsAt (upd H8 D4 (.lst (xs1.map V.ref ++ xs2.map V.ref))) D4 ((B2 ns.length (q + 1)).filter (inP L p)) := by
              rw [B2_succ, List.filter_append]
              exact LstsAt.app ⟨xs1, d1, d2, d3⟩ G8.lsts d1 f1 (new_same hD4) upd_same
            have S9 : Same H8 (upd H8 D4 (.lst (xs1.map V.ref ++ xs2.map V.ref))) := new_same hD4
            generalize upd H8 D4 (.lst (xs1.map V.ref ++ xs2.map V.ref)) = H9 at S9 L9
            have SE := (SC.trans G8.S).trans S9
            refine ⟨_, rfl, (ns.length : Nat), rfl, by omega, by omega, for_range (lo := 0) (n := ns.length) (fun l σ H' => ∃ (v6 v7 : Option V), σ = [some (.ref x), some (.ref w), some (.int (ns.length : Nat)), some (.int (0 + (p : Nat))), some (.ref D4), some (.int (0 + (q : Nat))), v6, v7] ∧ Same H9 H')
              ⟨_, _, rfl, Same.refl _⟩ ?_ ?_⟩
            · rintro l σ H10 hl ⟨v6, v7, rfl, S10⟩
              have SF := SE.trans S10
              refine ⟨_, rfl, x, dx, _, rfl, SF _ _ B1', (nob _ _ _ _).2.1, _, rfl, _, rfl, _, rfl, x, ns, L, _, _, _, rfl, hB.keep SF, fun y hy => ?_, fun y hy => first_no (fun y hy => ?_) hy, fun p' q' r' ep eq er lp' lq' lr' H11 S11 => ?_⟩
              · simp only [List.mem_cons, List.not_mem_nil, or_false] at hy
                rcases hy with rfl | rfl | rfl <;> exact kn_int _
              · simp only [List.mem_cons, List.not_mem_nil, or_false] at hy
                rcases hy with rfl | rfl | rfl
                · exact tie_z hi
                · exact tie_z hj
                · exact tie_z hl
              obtain rfl := z_eq ep
              obtain rfl := z_eq eq
              obtain rfl := z_eq er
              have SG := SF.trans S11
              refine ⟨_, rfl, _, _, _, _, rfl, rfl, SqT.of (SG _ _ a1), at_of (j := 1) (v := .ref z) rfl rfl, _, rfl, _, _, _, _, rfl, rfl, SqL.of (SG _ _ a3), at_of (j := p') (v := .ref (po p')) (by rw [Int.zero_add]) (refs_at hi), _, rfl, _, _, _, _, rfl, rfl, SqL.of (SG _ _ (a4 p' hi)), at_of (j := q') (v := .ref (ro p' q')) (by rw [Int.zero_add]) (refs_at hj), _, rfl, _, _, _, _, rfl, rfl, SqL.of (SG _ _ (a5 p' q' hi hj)), at_of (j := r') (v := .bl (fB L p' q' r')) (by rw [Int.zero_add]) (bools_at hl), _, rfl, .inr ⟨decide ([(p' : Int), (q' : Int), (r' : Int)] ∈ L), by unfold fB; rw [Bool.not_not]; rfl⟩, _, rfl, iteF ⟨_, _, rfl, S10.trans S11⟩⟩
            · rintro σ H10 ⟨v6, v7, rfl, S10⟩
              exact ⟨D4, _, _, _, rfl, SE.trans S10, L9.keep S10⟩
      · rintro σ H3 ⟨D, v5, v6, v7, rfl, S3, L3⟩
        refine ⟨_, rfl, x, dx, _, rfl, S3 _ _ B1', (nob _ _ _ _).2.2, _, rfl, x, ns, L, _, rfl, hB.keep S3, LA, l64, fun y hy => ?_, fun y hy => first_no (fun y hy => ?_) hy, fun p ep lp H6 zz S6 nzz Tz => ?_⟩
        · rw [List.mem_singleton.mp hy]
          exact kn_int _
        · rw [List.mem_singleton.mp hy]
          exact tie_z hi
        obtain rfl := z_eq ep
        rw [cpl_B2 h4 hL] at Tz
        have L6 := L3.keep S6
        obtain ⟨xs1, d1, d2, d3⟩ := id L6
        refine ⟨_, rfl, D, _, rfl, .inl ⟨SqL.of d1, fun u hu => ?_⟩⟩
        have S7 : Same H6 (upd H6 u (.tup (xs1.map V.ref))) := new_same hu
        exact ⟨zz, u, _, rfl, Tz.keep S7, L6.tup d1 hu, fun H8 S8 => ⟨_, rfl, iteF ⟨_, _, _, _, _, rfl, ((S3.trans S6).trans S7).trans S8⟩⟩⟩
    · rintro σ H2 ⟨v3, v4, v5, v6, v7, rfl, S2⟩
      exact k _ S2
end
end J

set_option Elab.async false
set_option linter.all false
set_option maxRecDepth 100000
set_option maxHeartbeats 8000000
namespace J
open PySem PySem.Spec PyProof.Rows L2
/-! ### entries that are drawn -/
/-- y: (g, v), v a three of m ties or none -/
def EntAt (h : Addr) (m : Nat) (H : Hp) (y : V) (g : Bool) (v : V) (s : Sh) : Prop := ∃ z, y = .ref z ∧ z ≠ h ∧ H z = some (.tup [.bl g, v]) ∧ Is H v s ∧ v ≠ .ref h ∧ (∀ u ∈ items s, isSc u = true) ∧ ∀ ns : List Int, ns.length = m → threeB ns s = g
theorem Is.but {h : Addr} {H H' : Hp} {v : V} {s : Sh} (i : Is H v s) (n : v ≠ .ref h) (B : But h H H') : Is H' v s := by
  cases s with
  | sc u => exact i
  | dk => obtain ⟨a, kvs, e, q⟩ := i; exact ⟨a, kvs, e, B _ _ (fun z => n (by rw [e, z])) q⟩
  | lst xs => obtain ⟨a, e, q⟩ := i; exact ⟨a, e, B _ _ (fun z => n (by rw [e, z])) q⟩
  | tup xs => obtain ⟨a, e, q⟩ := i; exact ⟨a, e, B _ _ (fun z => n (by rw [e, z])) q⟩
theorem EntAt.but {h : Addr} {m : Nat} {H H' : Hp} {y : V} {g : Bool} {v : V} {s : Sh} (e : EntAt h m H y g v s) (B : But h H H') : EntAt h m H' y g v s := by
  obtain ⟨z, a1, a2, a3, a4, a5, a6, a7⟩ := e
  exact ⟨z, a1, a2, B _ _ a2 a3, a4.but a5 B, a5, a6, a7⟩
theorem sc_known {H : Hp} {xs : List V} (h : ∀ u ∈ xs, isSc u = true) : Known H xs := fun u hu => ⟨.sc u, rfl, h u hu⟩
abbrev s_Lentry : Stmt := top 40
theorem sc_Lentry : FnScope ["_law_hand_here", "_law_many", "_law_p", "_law_q", "_law_r", "_law_odd", "_law_sort"] ["_law_hand_here", "_law_many"] (defScope s_Lentry) := ⟨rfl, rfl, rfl, by decide +kernel, rfl, by decide +kernel, by decide +kernel⟩
def spEnt : Sp := fun vs H Q _ => ∃ (h q : Addr) (m : Nat), vs = [.ref h, .int (m : Nat)] ∧ Hand H h q ∧ 0 < m ∧ m ≤ 4 ∧ ∀ (H' : Hp) (y : V) (g : Bool) (v : V) (s : Sh), But h H H' → Hand H' h q → EntAt h m H' y g v s → (∀ a, v = .ref a → H a = none) → Q y H'
theorem hand_free {H : Hp} {h q z : Addr} (x : Hand H h q) (hz : H z = none) : z ≠ h := fun e => (x.h_ne hz).1 e.symm
theorem good3 {m : Nat} {ns : List Int} {p q r : Int} (hn : ns.length = m) (p0 : 0 ≤ p) (p1 : p < (m : Nat)) (q0 : 0 ≤ q) (q1 : q < (m : Nat)) (r0 : 0 ≤ r) (r1 : r < (m : Nat)) : threeB ns (.tup [.int p, .int q, .int r]) = true :=
  three_yes (s := .tup [.int p, .int q, .int r]) (p := p) (q := q) (r := r) rfl rfl ⟨p0, by omega⟩ ⟨q0, by omega⟩ ⟨r0, by omega⟩
section
variable {P : Program} {w : World} {K : PySem.W.Frag} {mg : Str → Option Value} {base : Heap}
theorem ok_Lentry {f fD fP : Addr} {fd fdD fdP : FuncData} (F : Fun K "_law_entry" "_law_entry" s_Lentry f fd) (GD : Cal P w K mg base CX0 2 "_law_draw" fD fdD ["_law_hand_here", "_law_many"] spDraw) (GP : Cal P w K mg base CX0 3 "_law_pick" fP fdP ["_law_hand_here", "_law_things"] spPick) :
    FnOk P w K mg base CX0 4 f fd ["_law_hand_here", "_law_many"] spEnt := by
  refine F.ok sc_Lentry (fun vs H Q E h => ?_) (fun cdv A outer s H vs Q E hr h => ?_)
  · obtain ⟨h, q, m, rfl, _⟩ := h
    rfl
  · obtain ⟨h, q, m, rfl, hh, m0, m4, k⟩ := h
    refine ⟨_, (pss_cons 
  (ps_set (i := 2) sc_Lentry.nd rfl (Or.inl rfl) (pcal GD hr pass0 (pa_cons (pv 0) (pa_cons (pv 1) pa_nil)))) (pss_cons 
  (ps_set (i := 3) sc_Lentry.nd rfl (Or.inl rfl) (pcal GD hr pass0 (pa_cons (pv 0) (pa_cons (pv 1) pa_nil)))) (pss_cons 
  (ps_set (i := 4) sc_Lentry.nd rfl (Or.inl rfl) (pcal GD hr pass0 (pa_cons (pv 0) (pa_cons (pv 1) pa_nil)))) (pss_cons 
  (ps_set (i := 5) sc_Lentry.nd rfl (Or.inl rfl) (pcal GP hr pass0 (pa_cons (pv 0) (pa_cons (pe_lst (pa_cons (pv 1) (pa_cons (pe_un un_neg pe_int) (pa_cons pe_bl (pa_cons pe_non (pa_cons pe_str (pa_cons (pe_op op_add (pv 1) (pcal GD hr pass0 (pa_cons (pv 0) (pa_cons (pe_op op_pow pe_int pe_int) pa_nil)))) pa_nil))))))) pa_nil)))) (pss_cons 
  (ps_set (i := 6) sc_Lentry.nd rfl (Or.inl rfl) (pcal GD hr pass0 (pa_cons (pv 0) (pa_cons pe_int pa_nil)))) (pss_cons 
  (ps_if (pt_cmpR op_eq (pv 6) pe_int (nomark _)) (pss_one 
    (ps_ret (pe_tup (pa_cons pe_bl (pa_cons (pe_tup (pa_cons (pv 2) (pa_cons (pv 3) pa_nil))) pa_nil))))) pss_nil) (pss_cons 
  (ps_if (pt_cmpR op_eq (pv 6) pe_int (nomark _)) (pss_one 
    (ps_ret (pe_tup (pa_cons pe_bl (pa_cons (pe_lst (pa_cons (pv 2) (pa_cons (pv 5) (pa_cons (pv 4) pa_nil)))) pa_nil))))) pss_nil) (pss_cons 
  (ps_if (pt_cmpR op_eq (pv 6) pe_int (nomark _)) (pss_one 
    (ps_ret (pe_tup (pa_cons pe_bl (pa_cons (pcal GP hr pass0 (pa_cons (pv 0) (pa_cons (pe_lst (pa_cons pe_non (pa_cons pe_int (pa_cons pe_str (pa_cons (pv 5) (pa_cons (pe_tup (pa_cons (pv 2) (pa_cons (pv 3) (pa_cons (pv 4) (pa_cons pe_int pa_nil))))) pa_nil)))))) pa_nil))) pa_nil))))) pss_nil) (pss_cons 
  (ps_if (pt_cmpR op_eq (pv 6) pe_int (nomark _)) (pss_one 
    (ps_ret (pe_tup (pa_cons pe_bl (pa_cons (pe_tup (pa_cons (pv 5) (pa_cons (pv 3) (pa_cons (pv 4) pa_nil)))) pa_nil))))) pss_nil) (pss_cons 
  (ps_if (pt_cmpR op_eq (pe_op op_mod (pv 6) pe_int) pe_int (nomark _)) (pss_one 
    (ps_ret (pe_tup (pa_cons pe_bl (pa_cons (pe_lst (pa_cons (pv 2) (pa_cons (pv 3) (pa_cons (pv 4) pa_nil)))) pa_nil))))) pss_nil) (pss_one 
  (ps_ret (pe_tup (pa_cons pe_bl (pa_cons (pe_tup (pa_cons (pv 2) (pa_cons (pv 3) (pa_cons (pv 4) pa_nil)))) pa_nil))))))))))))))), ?_⟩
    refine ⟨_, rfl, _, rfl, h, q, _, rfl, by omega, by omega, hh, fun p H1 p0 p1 b1 h1 => ?_⟩
    refine ⟨_, rfl, _, rfl, h, q, _, rfl, by omega, by omega, h1, fun t H2 t0 t1 b2 h2 => ?_⟩
    refine ⟨_, rfl, _, rfl, h, q, _, rfl, by omega, by omega, h2, fun r H3 r0 r1 b3 h3 => ?_⟩
    refine ⟨_, rfl, _, rfl, _, rfl, _, rfl, _, rfl, _, _, rfl, rfl, ⟨by decide, by decide, by decide⟩, h, q, _, rfl, by decide, by decide, h3, fun x H4 x0 x1 b4 h4 => ?_⟩
    refine ⟨_, _, rfl, rfl, (by show 6 ≤ sizeLine; decide), fun l hl => ?_⟩
    have nlh := hand_free h4 hl
    have B5 := But.new (h := h) (o := .lst [.int (m : Nat), .int (-1), .bl true, .non, .str (Str.ofString "1"), .int ((m : Nat) + x)]) hl
    have h5 := h4.new (o := .lst [.int (m : Nat), .int (-1), .bl true, .non, .str (Str.ofString "1"), .int ((m : Nat) + x)]) hl
    refine ⟨h, q, l, _, rfl, h5, nlh, upd_same, (by show 0 < 6; decide), (by show 6 ≤ 1000; decide), fun H6 o mo b6 h6 => ?_⟩
    have it : isSc o = true ∧ Odd m o := by
      simp only [List.mem_cons, List.not_mem_nil, or_false] at mo
      rcases mo with rfl | rfl | rfl | rfl | rfl | rfl
      · exact ⟨rfl, odd_int (.inr (Int.le_refl _))⟩
      · exact ⟨rfl, odd_int (.inl (by decide))⟩
      · exact ⟨rfl, odd_sc fun n e => by cases e⟩
      · exact ⟨rfl, odd_sc fun n e => by cases e⟩
      · exact ⟨rfl, odd_sc fun n e => by cases e⟩
      · exact ⟨rfl, odd_int (.inr (by omega))⟩
    obtain ⟨so, oo⟩ := it
    have B6 : But h H H6 := (((((b1.trans b2).trans b3).trans b4).trans B5).trans b6)
    clear mo
    refine ⟨_, rfl, h, q, 15, rfl, by decide, by decide, h6, fun u H8 u0 u1 b8 h8 => ?_⟩
    have B8 := B6.trans b8
    -- a thing in a list or a tuple, and the couple around it
    have fin : ∀ (g : Bool) (xs : List V) (a y : Addr) (H9 H10 : Hp), H8 a = none → (H9 = upd H8 a (.lst xs) ∨ H9 = upd H8 a (.tup xs)) → H9 y = none → H10 = upd H9 y (.tup [.bl g, .ref a]) → (∀ u ∈ xs, isSc u = true) → (∀ ns : List Int, ns.length = m → threeB ns (.tup xs) = g) → Q (.ref y) H10 := by
      intro g xs a y H9 H10 ha h9 hy e10 hx hg
      have na := hand_free h8 ha
      rcases h9 with rfl | rfl
      · subst e10
        have ny := hand_free (h8.new (o := .lst xs) ha) hy
        have S := new_same (o := .tup [.bl g, .ref a]) hy
        exact k _ _ g (.ref a) (.lst xs) ((B8.trans (But.new ha)).trans (But.new hy)) ((h8.new ha).new hy) ⟨y, rfl, ny, upd_same, ⟨a, rfl, S _ _ upd_same⟩, (fun z => na (by injection z)), hx, hg⟩ (fun b eb => by injection eb with eb; rw [← eb]; exact B8.free na ha)
      · subst e10
        have ny := hand_free (h8.new (o := .tup xs) ha) hy
        have S := new_same (o := .tup [.bl g, .ref a]) hy
        exact k _ _ g (.ref a) (.tup xs) ((B8.trans (But.new ha)).trans (But.new hy)) ((h8.new ha).new hy) ⟨y, rfl, ny, upd_same, ⟨a, rfl, S _ _ upd_same⟩, (fun z => na (by injection z)), hx, hg⟩ (fun b eb => by injection eb with eb; rw [← eb]; exact B8.free na ha)
    refine ⟨_, rfl, rfl, _, rfl, ?_⟩
    refine ifD (fun c => ?_) (fun c => ?_)
    · refine ⟨_, rfl, _, rfl, (by show 2 ≤ sizeLine; decide), fun a ha => ⟨(by show 2 ≤ sizeLine; decide), fun y hy => ?_⟩⟩
      exact fin false [.int p, .int t] a y _ _ ha (.inr rfl) hy rfl (fun u hu => by simp only [List.mem_cons, List.not_mem_nil, or_false] at hu; rcases hu with rfl | rfl <;> rfl) (fun ns hn => rfl)
    refine ⟨_, rfl, rfl, _, rfl, ?_⟩
    refine ifD (fun c => ?_) (fun c => ?_)
    · refine ⟨_, rfl, _, rfl, _, rfl, (by show 3 ≤ sizeLine; decide), fun a ha => ⟨(by show 2 ≤ sizeLine; decide), fun y hy => ?_⟩⟩
      exact fin false [.int p, o, .int r] a y _ _ ha (.inl rfl) hy rfl (fun u hu => by simp only [List.mem_cons, List.not_mem_nil, or_false] at hu; rcases hu with rfl | rfl | rfl <;> first | rfl | exact so) (fun ns hn => all3 (.inr (.inl (oo ns hn))))
    refine ⟨_, rfl, rfl, _, rfl, ?_⟩
    refine ifD (fun c => ?_) (fun c => ?_)
    · refine ⟨_, rfl, _, rfl, _, rfl, _, rfl, _, rfl, (by show 4 ≤ sizeLine; decide), fun a ha => ⟨(by show 5 ≤ sizeLine; decide), fun l2 hl2 => ?_⟩⟩
      have ea : (upd H8 a (.tup [.int p, .int t, .int r, .int 0])) a = some (.tup [.int p, .int t, .int r, .int 0]) := upd_same
      have na := hand_free h8 ha
      have h9 := h8.new (o := .tup [.int p, .int t, .int r, .int 0]) ha
      have B9 := B8.trans (But.new (h := h) (o := .tup [.int p, .int t, .int r, .int 0]) ha)
      generalize upd H8 a (.tup [.int p, .int t, .int r, .int 0]) = H9 at ea h9 B9 hl2
      have nl2 := hand_free h9 hl2
      have S10 := new_same (o := .lst [.non, .int 7, .str (Str.ofString "012"), o, .ref a]) hl2
      have h10 := h9.new (o := .lst [.non, .int 7, .str (Str.ofString "012"), o, .ref a]) hl2
      have B10 := B9.trans (But.new (h := h) (o := .lst [.non, .int 7, .str (Str.ofString "012"), o, .ref a]) hl2)
      refine ⟨h, q, l2, _, rfl, h10, nl2, upd_same, (by show 0 < 5; decide), (by show 5 ≤ 1000; decide), fun H11 v mv b11 h11 => ⟨(by show 2 ≤ sizeLine; decide), fun y hy => ?_⟩⟩
      have ny := hand_free h11 hy
      have B12 := (B10.trans b11).trans (But.new (h := h) (o := .tup [.bl false, v]) hy)
      have S12 := new_same (o := .tup [.bl false, v]) hy
      have sc : ∀ v : V, isSc v = true → v ≠ .ref h → EntAt h m (upd H11 y (.tup [.bl false, v])) (.ref y) false v (.sc v) := fun v sv nv => ⟨y, rfl, ny, upd_same, ⟨rfl, sv⟩, nv, (fun u hu => by cases hu), fun ns hn => rfl⟩
      have nsc : ∀ v : V, isSc v = true → v ≠ .ref h := fun v sv e => by rw [e] at sv; cases sv
      have fv : ∀ b, v = .ref b → H b = none := fun b eb => by
        rw [eb] at mv
        simp only [List.mem_cons, List.not_mem_nil, or_false] at mv
        rcases mv with z | z | z | z | z
        · cases z
        · cases z
        · cases z
        · rw [← z] at so
          cases so
        · injection z with z
          rw [z]
          exact B8.free na ha
      refine k _ _ false v (if isSc v = true then .sc v else .tup [.int p, .int t, .int r, .int 0]) B12 (h11.new hy) ?_ fv
      simp only [List.mem_cons, List.not_mem_nil, or_false] at mv
      rcases mv with rfl | rfl | rfl | rfl | rfl
      · exact sc _ rfl (nsc _ rfl)
      · exact sc _ rfl (nsc _ rfl)
      · exact sc _ rfl (nsc _ rfl)
      · rw [if_pos so]
        exact sc _ so (nsc _ so)
      · refine ⟨y, rfl, ny, upd_same, ⟨a, rfl, S12 _ _ (b11 _ _ na (S10 _ _ ea))⟩, (fun z => na (by injection z)), fun u hu => ?_, fun ns hn => rfl⟩
        have hu : u ∈ ([.int p, .int t, .int r, .int 0] : List V) := hu
        simp only [List.mem_cons, List.not_mem_nil, or_false] at hu
        rcases hu with rfl | rfl | rfl | rfl <;> rfl
    refine ⟨_, rfl, rfl, _, rfl, ?_⟩
    refine ifD (fun c => ?_) (fun c => ?_)
    · refine ⟨_, rfl, _, rfl, _, rfl, (by show 3 ≤ sizeLine; decide), fun a ha => ⟨(by show 2 ≤ sizeLine; decide), fun y hy => ?_⟩⟩
      exact fin false [o, .int t, .int r] a y _ _ ha (.inr rfl) hy rfl (fun u hu => by simp only [List.mem_cons, List.not_mem_nil, or_false] at hu; rcases hu with rfl | rfl | rfl <;> first | rfl | exact so) (fun ns hn => all3 (.inl (oo ns hn)))
    refine ⟨_, rfl, _, _, rfl, rfl, (by show (0 : Int) < 2; decide), rfl, _, rfl, ?_⟩
    refine ifD (fun c => ?_) (fun c => ?_)
    · refine ⟨_, rfl, _, rfl, _, rfl, (by show 3 ≤ sizeLine; decide), fun a ha => ⟨(by show 2 ≤ sizeLine; decide), fun y hy => ?_⟩⟩
      exact fin true [.int p, .int t, .int r] a y _ _ ha (.inl rfl) hy rfl (fun u hu => by simp only [List.mem_cons, List.not_mem_nil, or_false] at hu; rcases hu with rfl | rfl | rfl <;> rfl) (fun ns hn => good3 hn p0 p1 t0 t1 r0 r1)
    · refine ⟨_, rfl, _, rfl, _, rfl, (by show 3 ≤ sizeLine; decide), fun a ha => ⟨(by show 2 ≤ sizeLine; decide), fun y hy => ?_⟩⟩
      exact fin true [.int p, .int t, .int r] a y _ _ ha (.inr rfl) hy rfl (fun u hu => by simp only [List.mem_cons, List.not_mem_nil, or_false] at hu; rcases hu with rfl | rfl | rfl <;> rfl) (fun ns hn => good3 hn p0 p1 t0 t1 r0 r1)
end
end J

set_option Elab.async false
set_option linter.all false
set_option maxRecDepth 100000
set_option maxHeartbeats 4000000
/-! a def that raises nothing, called within an except suite (whatever the context of the error that is handled) -/
namespace L2
open PySem PySem.Spec PyProof.Rows L2H
structure FnC (P : Program) (w : World) (K : PySem.W.Frag) (mg : Str → Option Value) (base : Heap) (k : Nat) (f : Addr) (fd : FuncData) (ps : List Str) (sp : Sp) : Prop where
  len : ∀ vs H Q E, sp vs H Q E → vs.length = ps.length
  run : ∀ (A : Around) (outer : List Env) (s : Shared) (H : Hp) (args : Args) (us : List Value) (vs : List V) (Q : VK) (E : XK) (p : Addr × Obj), RoomH k A → PinOk outer H s p → Env0 P w K mg base A outer s H → BindsTo s fd args (ps.zip us) → Vals vs us → sp vs H Q E →
    codeAny (model P w) A (.call (.ref f) args) (CR CX0 outer P w H s Q E) s
theorem fn_ofC {P : Program} {w : World} {K : PySem.W.Frag} {mg : Str → Option Value} {base : Heap} {k : Nat} {x qual : Str} {st : Stmt} {f : Addr} {fd : FuncData} {N ps : List Str} {sp : Sp} (F : Fun K x qual st f fd) (S : FnScope N ps (defScope st)) (len : ∀ vs H Q E, sp vs H Q E → vs.length = ps.length)
    (hbody : ∀ (cdv : Value) (A : Around) (outer : List Env) (s : Shared) (H : Hp) (vs : List V) (Q : VK) (E : XK) (p : Addr × Obj), RoomH k (A.deeper (envOfC qual (defScope st) s.heap.objs.size f cdv)) → sp vs H Q E →
      ∃ t, PSs (cxH CX0 P w K mg base N qual (defScope st) f cdv A outer s H E p) (defBody st) t ∧ t { nx := fun _ H' => Q .non H', rt := Q } (L2.start N vs) H) : FnC P w K mg base (k + 1) f fd ps sp := by
  obtain ⟨oc, od, kV, doc, pm, an, cdv, ct, osl, rfl, lk, hcd⟩ := F.ex
  refine ⟨len, fun A outer s H args us vs Q E p hr hpin e0 hb r hsp => ?_⟩
  have hl := len _ _ _ _ hsp
  have kin : K.In s.heap := e0.mod.kin.keeps fun b o e => (e0.bs b o e).1
  have lim : s.heap.NoLimit := e0.mod.nolimit.keeps fun b o e => (e0.bs b o e).1
  refine codeAny_call_function hr.depth (kin _ _ lk) rfl S.co S.gen rfl (PySem.W.codeRec_of kin hcd) (hb _ _ _ _ ?_)
  refine wpAny_newFunctionEnv_cells S.kind (fun ⟨n, v⟩ hy => ?_) fun env he s1 y => ?_
  · rcases S.par n (List.of_mem_zip hy).1 with q | q
    · exact .inl q
    · exact .inr ⟨q, PySem.W.cellsFrom_some _ _ _ (.inl q)⟩
  subst he
  refine ⟨lim.keeps y.toInCall.keep, codeAny_func ?_⟩
  obtain ⟨t, ht, hq⟩ := hbody cdv A outer s H vs Q E p (hr.deeper _) hsp
  have I : Inv (cxH CX0 P w K mg base N qual (defScope st) f cdv A outer s H E p) [] (L2.start N vs) H s1 := inv_startH S hpin e0 hl r y
  refine wpAny_mono (ht.run [] s1 (L2.start N vs) H _ I hq) (fun fl s' hs => ?_) fun e s' hs => hs
  cases fl with
  | ret u =>
    obtain ⟨v, σ', H', J, rv, q⟩ := hs
    exact ⟨v, H', J.os, J.bare, J.base, J.hok, rv, q⟩
  | next =>
    obtain ⟨σ', H', J, q⟩ := hs
    exact ⟨V.non, H', J.os, J.bare, J.base, J.hok, rfl, q⟩
  | brk =>
    obtain ⟨_, _, _, q⟩ := hs
    exact False.elim q
  | cont =>
    obtain ⟨_, _, _, q⟩ := hs
    exact False.elim q
section
variable {X : Cx} {k : Nat} {f : Addr} {fd : FuncData} {ps : List Str} {sp : Sp} {x : Str} {q pos : Pos} {e : Expr} {es : List Expr} {t : TA}
theorem pe_callC {pr : Addr × Obj} (F : FnC X.prog X.w X.K X.mg X.base k f fd ps sp) (hr : RoomH k X.A) (hp : pr ∈ X.pn) (hg : Gl X x) (hm : X.mg x = some (.ref f)) (hk : PySem.W.keepIn X.K (.ref f) = true) (hb : Binds X.K fd ps [])
    (ha : PA X (e :: es) t) (hdb : (x == ("__debug__" : Str)) = false := by decide) (he : starEach (e :: es) X.env = (false, eval e X.env) :: starEach es X.env := by rfl) (hpl : (backTo pos (starEach es X.env)).any (·.1) = false := by rfl) :
    PE X (.Call (.Name x q) (e :: es) [] pos) (tCall sp [] E0 t) := by
  refine ⟨fun pins s σ H Q I h => ?_⟩
  refine wpAny_Call_Name_kw (ld_glob I hg hm ?_ hdb)
  refine PySem.W.callWith_K (h₀ := X.base) I.ok.mod.kin hk (thn (ha.run pos pins s σ H _ I h) fun us s1 ⟨vs, H1, I1, r, q1⟩ => ⟨I1.kIn, ?_⟩) he hpl
  have q1 : sp vs H1 Q E0 := by have z : sp (vs ++ []) H1 Q E0 := q1; rw [List.append_nil] at z; exact z
  have hl : us.length = ps.length := by rw [← r.length]; exact F.len _ _ _ _ q1
  have b := hb s1 us I1.kIn (by rw [List.append_nil]; exact hl)
  rw [List.append_nil] at b
  have P1 := I1.pin pr (List.mem_append_left _ hp)
  have hpin : PinOk X.stack H1 s1 pr := ⟨P1.1, P1.2.1, fun hm => (List.mem_cons.mp (I1.stkSub pr.1 hm)).elim P1.2.2.1 P1.2.2.2.1, P1.2.2.2.2⟩
  refine wpAny_call (codeAny_mono (F.run X.A X.stack s1 H1 ⟨us, []⟩ us vs Q _ pr hr hpin I1.env0 b r q1) fun r s' hq => ?_)
  cases r with
  | error e => exact False.elim hq
  | ok fl =>
    cases fl with
    | ret u => exact I1.after hq
    | next => exact False.elim hq
    | brk => exact False.elim hq
    | cont => exact False.elim hq
end
end L2

set_option Elab.async false
set_option linter.all false
set_option maxRecDepth 100000
set_option maxHeartbeats 8000000
namespace L2
open PySem PySem.Spec PyProof.Rows
/-- a call of a local name that holds a def, in a try's suite -/
def tCallLS (i : Nat) (f : Addr) (sp : Sp) (E : St → XK) (t : TA) : TE := fun σ H Q => σ[i]? = some (some (.ref f)) ∧ t σ H fun vs H1 => sp vs H1 Q (E σ)
section
variable {X : Cx} {CX : CXT} {k i : Nat} {f : Addr} {fd : FuncData} {ps : List Str} {sp : Sp} {E : St → XK} {x : Str} {p pos : Pos} {e : Expr} {es : List Expr} {t : TA}
theorem pe_callLS (F : FnOk X.prog X.w X.K X.mg X.base CX k f fd ps sp) (hr : Room k X.A) (hN : X.N[i]? = some x) (hv : Vis X.env.scope x) (hk : PySem.W.keepIn X.K (.ref f) = true) (hb : Binds X.K fd ps []) (hx : ∀ σ, PassesAt CX X σ (E σ)) (ha : PA X (e :: es) t)
    (hdb : (x == ("__debug__" : Str)) = false := by decide) (hcd : (x == ("__classdict__" : Str)) = false := by decide)
    (he : starEach (e :: es) X.env = (false, eval e X.env) :: starEach es X.env := by rfl) (hpl : (backTo pos (starEach es X.env)).any (·.1) = false := by rfl) : PE X (.Call (.Name x p) (e :: es) [] pos) (tCallLS i f sp E t) := by
  refine ⟨fun pins s σ H Q I h => ?_⟩
  obtain ⟨hs, ht⟩ := h
  refine wpAny_Call_Name_kw (thn ((pe_var (pos := p) hN hv hdb hcd).run pins s σ H (fun v H1 => v = .ref f ∧ H1 = H) I ⟨.ref f, hs, rfl, rfl⟩) fun u s1 ⟨v, H1, I1, r1, q1⟩ => ?_)
  obtain ⟨rfl, rfl⟩ := q1
  cases r1
  refine PySem.W.callWith_K (h₀ := X.base) I.ok.mod.kin hk (thn (ha.run pos pins s1 σ _ _ I1 ht) fun us s2 ⟨vs, H2, I2, r, q⟩ => ⟨I2.kIn, ?_⟩) he hpl
  exact run_fnS F hr hb (hx σ) I2 r q
end
end L2
namespace J
open PySem PySem.Spec PyProof.Rows L2
open L2H (RoomH roomH_of cxH)
/-! ### how a book is refused -/
def ArgR (C : Addr) (w : Str) (t v : V) (H : Hp) (j : Int) (u : Str) : Prop :=
  ((∃ z xs, t = .ref z ∧ H z = some (.lst xs)) ∧ j = 0 ∧ u = "ties") ∨ ∃ (x : Addr) (ns : List Int) (s : Sh) (ss : List Sh), t = .ref x ∧ TiesAt C H x ns ∧ GoodB ns ∧ Is H v s ∧ ShAll H (items s) ss ∧
    (((s.isL || s.isT) = false ∧ j = 0 ∧ u = w) ∨ ((s.isL || s.isT) = true ∧ ∃ (a : Nat) (s' : Sh), j = (a : Nat) ∧ u = "three" ∧ ss[a]? = some s' ∧ threeB ns s' = false ∧ ∀ (i : Nat) (s' : Sh), i < a → ss[i]? = some s' → threeB ns s' = true))
theorem ArgR.arg {C CE : Addr} {w : Str} {t v : V} {H : Hp} {j : Int} {u : Str} {E : XK} {k : List Int → List (List Int) → Prop} (h : ArgR C w t v H j u) (T : Told H CE j u E) : ArgB C CE w t v H E k := by
  rcases h with ⟨hz, rfl, rfl⟩ | ⟨x, ns, s, ss, rfl, hT, gb, hv, hs, ⟨sq, rfl, rfl⟩ | ⟨sq, a, s', rfl, rfl, e1, e2, e3⟩⟩
  · exact .inl ⟨hz, T⟩
  · exact .inr ⟨x, ns, s, ss, rfl, hT, gb, hv, hs, fun _ => T, (fun j s' q => by rw [sq] at q; cases q), (fun q => by rw [sq] at q; cases q)⟩
  · refine .inr ⟨x, ns, s, ss, rfl, hT, gb, hv, hs, (fun q => by rw [sq] at q; cases q), fun j s2 _ f1 f2 f3 => ?_, fun _ f => ?_⟩
    · have : j = a := by
        rcases Nat.lt_trichotomy j a with q | q | q
        · have := e3 j s2 q f1
          rw [f2] at this
          cases this
        · exact q
        · have := f3 a s' q e1
          rw [e2] at this
          cases this
      subst this
      exact T
    · have := f s' (List.mem_of_getElem? e1)
      rw [e2] at this
      cases this
theorem ArgR.keep {C : Addr} {w : Str} {t v : V} {H H' : Hp} {j : Int} {u : Str} (h : ArgR C w t v H j u) (S : Same H H') : ArgR C w t v H' j u := by
  rcases h with ⟨⟨z, xs, e, hz⟩, a, b⟩ | ⟨x, ns, s, ss, e, hT, gb, hv, hs, r⟩
  · exact .inl ⟨⟨z, xs, e, S _ _ hz⟩, a, b⟩
  · exact .inr ⟨x, ns, s, ss, e, hT.keep S, gb, hv.keep S, hs.keep S, r⟩
abbrev s_Lmade : Stmt := top 42
theorem sc_Lmade : FnScope ["_law_ties", "_law_things"] ["_law_ties", "_law_things"] (defScope s_Lmade) := ⟨rfl, rfl, rfl, by decide +kernel, rfl, by decide +kernel, by decide +kernel⟩
abbrev s_Lletting : Stmt := top 43
theorem sc_Lletting : FnScope ["_law_ties", "_law_things"] ["_law_ties", "_law_things"] (defScope s_Lletting) := ⟨rfl, rfl, rfl, by decide +kernel, rfl, by decide +kernel, by decide +kernel⟩
def spBadB (C CE : Addr) (w : Str) : Sp := fun vs H Q E => ∃ t v : V, vs = [t, v] ∧ ArgB C CE w t v H E (fun _ _ => False)
abbrev s_Lrefusal : Stmt := top 41
theorem sc_Lrefusal : FnScope ["_law_call", "_law_ties", "_law_things", "e"] ["_law_call", "_law_ties", "_law_things"] (defScope s_Lrefusal) := ⟨rfl, rfl, rfl, by decide +kernel, rfl, by decide +kernel, by decide +kernel⟩
def spRefu (C fM fL : Addr) : Sp := fun vs H Q _ => ∃ (g : Addr) (t v : V) (j : Int) (u : Str), vs = [.ref g, t, v] ∧ ((g = fM ∧ ArgR C "barred" t v H j u) ∨ (g = fL ∧ ArgR C "threes" t v H j u)) ∧ ∀ (H' : Hp) (y : Addr), Same H H' → H' y = some (.tup [.int j, .str u]) → Q (.ref y) H'
theorem lk_ix {u v : V} : List.lookup ("index" : Str) [(("what" : Str), u), (("index" : Str), v)] = some v := by
  have e : (("index" : Str) == ("what" : Str)) = false := by decide +kernel
  simp [List.lookup, e]
theorem lk_wh {u v : V} : List.lookup ("what" : Str) [(("what" : Str), u), (("index" : Str), v)] = some u := by simp [List.lookup]
theorem lk_ti {v : V} : List.lookup ("tie" : Str) ([("tie", v)] : List (Str × V)) = some v := by simp [List.lookup]
abbrev s_Lno_tie : Stmt := top 44
theorem sc_Lno_tie : FnScope ["_law_book", "_law_odd", "_law_tie", "_law_way", "e"] ["_law_book", "_law_odd", "_law_tie", "_law_way"] (defScope s_Lno_tie) := ⟨rfl, rfl, rfl, by decide +kernel, rfl, by decide +kernel, by decide +kernel⟩
def spPO : Sp := fun vs H Q _ => ∃ v : V, vs = [v, v] ∧ isSc v = true ∧ Q (.bl true) H
def spNoT (C CB : Addr) : Sp := fun vs H Q _ => ∃ (x : Addr) (ns : List Int) (L : List (List Int)) (o : V) (t : Nat) (way : Int), vs = [.ref x, o, .int (t : Nat), .int way] ∧ BookAt C CB H x ns L ∧ GoodB ns ∧ (∀ t ∈ L, t ∈ A3 ns.length ns.length) ∧ L.length ≤ 64 ∧ isSc o = true ∧ tieB ns o = false ∧ t < ns.length ∧ ∀ H', Same H H' → Q (.bl true) H'
theorem kt_str_str : kitB "str" "str" = some true := by decide +kernel
theorem first_0 {ns : List Int} {o y : V} {r : List V} (h : tieB ns o = false) (f : FirstNo ns (o :: r) y) : y = o := by
  obtain ⟨j, e1, e2, e3⟩ := f
  cases j with
  | zero => exact (Option.some.inj e1).symm
  | succ j =>
    have := e3 0 o (Nat.succ_pos _) rfl
    rw [h] at this
    cases this
theorem first_s {ns : List Int} {t y : V} {r : List V} (h : tieB ns t = true) (f : FirstNo ns (t :: r) y) : FirstNo ns r y := by
  obtain ⟨j, e1, e2, e3⟩ := f
  cases j with
  | zero =>
    obtain rfl : t = y := Option.some.inj e1
    rw [h] at e2
    cases e2
  | succ j => exact ⟨j, by simpa using e1, e2, fun i y' hi ey => e3 (i + 1) y' (by omega) (by simpa using ey)⟩
theorem odd_no {ns : List Int} {o : V} {p : Nat} {A : Prop} (h : tieB ns o = false) (e : o = .int (p : Nat)) (l : p < ns.length) : A := by
  rw [e, tie_nat l] at h
  cases h
section
variable {P : Program} {w : World} {K : PySem.W.Frag} {mg : Str → Option Value} {base : Heap}
theorem ok_LplainS {f : Addr} {fd : FuncData} (F : Fun K "_law_plain" "_law_plain" s_Lplain f fd) (nis : mg "isinstance" = none) (nt : mg "tuple" = none) (nb : mg "bool" = none) (ni : mg "int" = none) (ns : mg "str" = none) : FnC P w K mg base 1 f fd ["_law_answer", "_law_due"] spPO := by
  refine fn_ofC F sc_Lplain (fun vs H Q E h => ?_) (fun cdv A outer s H vs Q E p hr h => ?_)
  · obtain ⟨v, rfl, _⟩ := h
    rfl
  · refine ⟨_, (pss_cons 
  (ps_if (pt_val (pe_callB (id := "isinstance") (r := rIsi K) call_isi (by rfl) nis (by decide +kernel) (pa_cons (pv 1) (pa_cons (pe_bltn (by rfl) nt (by decide +kernel) (v := .ty "tuple") rfl) pa_nil)))) pss_never pss_nil) (pss_cons 
  (ps_if (pt_cmpR op_isN (pv 1) pe_non (nomark _)) (pss_one 
    (ps_ret (pe_cmpR op_isN (pv 0) pe_non (nomark _)))) pss_nil) (pss_cons 
  (ps_if (PW.pt (pw_or (pt_val (pe_callB (id := "isinstance") (r := rIsi K) call_isi (by rfl) nis (by decide +kernel) (pa_cons (pv 1) (pa_cons (pe_bltn (by rfl) nb (by decide +kernel) (v := .ty "bool") rfl) pa_nil)))) (pw_or1 (pt_val (pe_callB (id := "isinstance") (r := rIsi K) call_isi (by rfl) nis (by decide +kernel) (pa_cons (pv 0) (pa_cons (pe_bltn (by rfl) nb (by decide +kernel) (v := .ty "bool") rfl) pa_nil))))))) (pss_one 
    (ps_ret (pe_and (pe_callB (id := "isinstance") (r := rIsi K) call_isi (by rfl) nis (by decide +kernel) (pa_cons (pv 1) (pa_cons (pe_bltn (by rfl) nb (by decide +kernel) (v := .ty "bool") rfl) pa_nil))) (pe_and (pe_callB (id := "isinstance") (r := rIsi K) call_isi (by rfl) nis (by decide +kernel) (pa_cons (pv 0) (pa_cons (pe_bltn (by rfl) nb (by decide +kernel) (v := .ty "bool") rfl) pa_nil))) (pe_one (pe_cmpR op_eq (pv 0) (pv 1) (nomark _))))))) pss_nil) (pss_cons 
  (ps_if (pt_val (pe_callB (id := "isinstance") (r := rIsi K) call_isi (by rfl) nis (by decide +kernel) (pa_cons (pv 1) (pa_cons (pe_bltn (by rfl) ni (by decide +kernel) (v := .ty "int") rfl) pa_nil)))) (pss_one 
    (ps_ret (pe_and (pe_callB (id := "isinstance") (r := rIsi K) call_isi (by rfl) nis (by decide +kernel) (pa_cons (pv 0) (pa_cons (pe_bltn (by rfl) ni (by decide +kernel) (v := .ty "int") rfl) pa_nil))) (pe_one (pe_cmpR op_eq (pv 0) (pv 1) (nomark _)))))) pss_nil) (pss_one 
  (ps_ret (pe_and (pe_callB (id := "isinstance") (r := rIsi K) call_isi (by rfl) nis (by decide +kernel) (pa_cons (pv 0) (pa_cons (pe_bltn (by rfl) ns (by decide +kernel) (v := .ty "str") rfl) pa_nil))) (pe_one (pe_cmpR op_eq (pv 0) (pv 1) (nomark _)))))))))), ?_⟩
    obtain ⟨v, rfl, sv, k⟩ := h
    cases v with
    | int n =>
      refine ⟨_, rfl, _, _, _, _, false, rfl, .ty "tuple", .base (.int n), kit_ty kt_int_tuple, _, rfl, iteF ?_⟩
      refine ⟨_, rfl, rfl, _, rfl, if_fa (by simp) ?_⟩
      refine ⟨_, rfl, _, _, _, _, false, rfl, .ty "bool", .base (.int n), kit_ty kt_int_bool, _, rfl, iteF ?_⟩
      refine ⟨_, rfl, _, _, _, _, false, rfl, .ty "bool", .base (.int n), kit_ty kt_int_bool, _, rfl, iteF ?_⟩
      refine ⟨_, rfl, _, _, _, _, true, rfl, .ty "int", .base (.int n), kit_ty kt_int_int, _, rfl, iteT ?_⟩
      refine ⟨_, rfl, _, _, _, _, true, rfl, .ty "int", .base (.int n), kit_ty kt_int_int, _, rfl, if_tr rfl ⟨_, rfl, _, rfl, rfl, ?_⟩⟩
      rw [decide_eq_true rfl]
      exact k
    | bl b =>
      refine ⟨_, rfl, _, _, _, _, false, rfl, .ty "tuple", .base (.bl b), kit_ty kt_bool_tuple, _, rfl, iteF ?_⟩
      refine ⟨_, rfl, rfl, _, rfl, if_fa (by simp) ?_⟩
      refine ⟨_, rfl, _, _, _, _, true, rfl, .ty "bool", .base (.bl b), kit_ty kt_bool_bool, _, rfl, iteT ?_⟩
      refine ⟨_, rfl, _, _, _, _, true, rfl, .ty "bool", .base (.bl b), kit_ty kt_bool_bool, _, rfl, if_tr rfl ?_⟩
      refine ⟨_, rfl, _, _, _, _, true, rfl, .ty "bool", .base (.bl b), kit_ty kt_bool_bool, _, rfl, if_tr rfl ⟨_, rfl, _, rfl, rfl, ?_⟩⟩
      rw [decide_eq_true rfl]
      exact k
    | non =>
      refine ⟨_, rfl, _, _, _, _, false, rfl, .ty "tuple", .base .non, kit_ty kt_NoneType_tuple, _, rfl, iteF ?_⟩
      refine ⟨_, rfl, rfl, _, rfl, if_tr (by simp) ⟨_, rfl, rfl, ?_⟩⟩
      rw [decide_eq_true rfl]
      exact k
    | str z =>
      refine ⟨_, rfl, _, _, _, _, false, rfl, .ty "tuple", .base (.str z), kit_ty kt_str_tuple, _, rfl, iteF ?_⟩
      refine ⟨_, rfl, rfl, _, rfl, if_fa (by simp) ?_⟩
      refine ⟨_, rfl, _, _, _, _, false, rfl, .ty "bool", .base (.str z), kit_ty kt_str_bool, _, rfl, iteF ?_⟩
      refine ⟨_, rfl, _, _, _, _, false, rfl, .ty "bool", .base (.str z), kit_ty kt_str_bool, _, rfl, iteF ?_⟩
      refine ⟨_, rfl, _, _, _, _, false, rfl, .ty "int", .base (.str z), kit_ty kt_str_int, _, rfl, iteF ?_⟩
      refine ⟨_, rfl, _, _, _, _, true, rfl, .ty "str", .base (.str z), kit_ty kt_str_str, _, rfl, if_tr rfl ⟨_, rfl, _, rfl, rfl, ?_⟩⟩
      rw [decide_eq_true rfl]
      exact k
    | byt b => cases sv
    | flt b => cases sv
    | ref b => cases sv
    | ty b => cases sv
theorem ok_Lmade {f C CB CE fI : Addr} {fd fdI : FuncData} (F : Fun K "_law_made" "_law_made" s_Lmade f fd) (mB : mg "Book" = some (.ref CB)) (MI : Mk K CB fI) (FI : FnOk P w K mg base (L2.CX P w) 6 fI fdI ["self", "ties", "barred"] (spBI K C CB CE)) (bI : Binds K fdI ["self", "ties", "barred"] []) :
    FnOk P w K mg base (L2.CX P w) 9 f fd ["_law_ties", "_law_things"] (spBadB C CE "barred") := by
  refine F.okX sc_Lmade (fun vs H Q E h => ?_) (fun cdv A outer s H vs Q E hr h => ?_)
  · obtain ⟨t, v, rfl, _⟩ := h
    rfl
  · obtain ⟨t, v, rfl, h⟩ := h
    refine ⟨_, (pss_one (ps_ret (pe_make MI FI (hr.mono (by decide)) rfl mB bI .nil (passes_call (takes_of rfl rfl rfl rfl) (fun _ _ _ _ h => h)) (pa_cons (pv 0) (pa_cons (pv 1) pa_nil))))), ?_⟩
    exact ⟨_, rfl, _, rfl, mk_book (h.mono (Same.refl _) fun _ _ f => f.elim)⟩
theorem ok_Lletting {f C CB CE pL gL : Addr} {fd fdL : FuncData} (F : Fun K "_law_letting" "_law_letting" s_Lletting f fd) (mB : mg "Book" = some (.ref CB)) (rB : ClX.CRead K CB (.type "type")) (cS : CSta K CB (.type "type") "letting" pL gL) (FL : FnOk P w K mg base (L2.CX P w) 8 gL fdL ["ties", "threes"] (spLet C CB CE)) (bL : Binds K fdL ["ties", "threes"] []) :
    FnOk P w K mg base (L2.CX P w) 9 f fd ["_law_ties", "_law_things"] (spBadB C CE "threes") := by
  refine F.okX sc_Lletting (fun vs H Q E h => ?_) (fun cdv A outer s H vs Q E hr h => ?_)
  · obtain ⟨t, v, rfl, _⟩ := h
    rfl
  · obtain ⟨t, v, rfl, h⟩ := h
    refine ⟨_, (pss_one (ps_ret (pe_sta (pe_glob (v := .ref CB) rfl mB rfl) rB cS FL hr bL (passes_call (takes_of rfl rfl rfl rfl) (fun _ _ _ _ h => h)) (pa_cons (pv 0) (pa_cons (pv 1) pa_nil))))), ?_⟩
    exact ⟨rfl, _, rfl, _, rfl, t, v, rfl, h.mono (Same.refl _) fun _ _ f => f.elim⟩
theorem ok_Lrefusal {f C CE CG fM fL fI : Addr} {fd fdM fdL fdI : FuncData} (F : Fun K "_law_refusal" "_law_refusal" s_Lrefusal f fd) (nis : mg "isinstance" = none) (nb : mg "bool" = none) (GM : Cal P w K mg base (L2.CX P w) 9 "_law_made" fM fdM ["_law_ties", "_law_things"] (spBadB C CE "barred")) (GL : Cal P w K mg base (L2.CX P w) 9 "_law_letting" fL fdL ["_law_ties", "_law_things"] (spBadB C CE "threes"))
    (GE : Ex2 P w K mg base "BadBook" "index" "what" CE fI fdI ["self", "index", "what"]) (XC : ExcC K CE) (mG : mg "GuestError" = some (.ref CG)) (kg : PySem.W.kitOne K (.ref CE) (.ref CG) = some true) : FnOk P w K mg base CX0 10 f fd ["_law_call", "_law_ties", "_law_things"] (spRefu C fM fL) := by
  refine F.ok sc_Lrefusal (fun vs H Q E h => ?_) (fun cdv A outer s H vs Q E hr h => ?_)
  · obtain ⟨g, t, v, j, u, rfl, _⟩ := h
    rfl
  · obtain ⟨g, t, v, j, u, rfl, hg, k⟩ := h
    rcases hg with ⟨rfl, ha⟩ | ⟨rfl, ha⟩
    · refine ⟨_, (pss_cons 
  (ps_try_as (i := 3) (Wout := fun _ _ _ _ => False) rfl rfl sc_Lrefusal.nd rfl rfl ⟨rfl, by decide, Or.inl GE.m⟩ takes0 (fun W pn xe tk _ => (pss_one 
    (ps_expr (by exact (pe_callLS (i := 0) GM.F (hr.mono (by decide)) rfl (Or.inl rfl) GM.kp GM.b (fun σ => passAt tk σ) (by exact (pa_cons (pv 1) (pa_cons (pv 2) pa_nil)))))))) (fun a oe cls d pn hz hf => (pss_one 
    (ps_if (PW.pt (pw_and (pt_val (pe_callB (id := "isinstance") (r := rIsX K CE a cls d) (call_isX XC hz hf) (by rfl) nis (by decide +kernel) (pa_cons (pv 3) (pa_cons (pe_glob (v := .ref CG) rfl mG rfl) pa_nil)))) (pw_and1 (pt_not (pt_val (pe_callB (id := "isinstance") (r := rIsi K) call_isi (by rfl) nis (by decide +kernel) (pa_cons (pe_xf GE.xf GE.no1 hz hf (pv 3)) (pa_cons (pe_bltn (by rfl) nb (by decide +kernel) (v := .ty "bool") rfl) pa_nil)))))))) (pss_one 
      (ps_ret (pe_tup (pa_cons (pe_xf GE.xf GE.no1 hz hf (pv 3)) (pa_cons (pe_xf GE.xf GE.no2 hz hf (pv 3)) pa_nil))))) pss_nil)))) (pss_one 
  (ps_ret pe_non))), ?_⟩
      refine ⟨rfl, _, rfl, _, rfl, t, v, rfl, ha.arg fun d H1 nd S1 e => ⟨true, GE.te, fun _ a haa => ?_, fun q => nomatch q⟩⟩
      refine ⟨_, rfl, _, _, true, d, _, rfl, rfl, rfl, e, .own CG, kg, _, rfl, if_tr rfl ?_⟩
      refine ⟨_, rfl, rfl, rfl, d, _, _, rfl, e, lk_ix, _, _, _, _, false, rfl, .ty "bool", .base (.int j), kit_ty kt_int_bool, _, rfl, iteT ?_⟩
      refine ⟨_, rfl, rfl, rfl, d, _, _, rfl, e, lk_ix, _, rfl, rfl, rfl, d, _, _, rfl, e, lk_wh, (by show 2 ≤ sizeLine; decide), fun y hy => ?_⟩
      exact k _ y (S1.trans (new_same hy)) upd_same
    · refine ⟨_, (pss_cons 
  (ps_try_as (i := 3) (Wout := fun _ _ _ _ => False) rfl rfl sc_Lrefusal.nd rfl rfl ⟨rfl, by decide, Or.inl GE.m⟩ takes0 (fun W pn xe tk _ => (pss_one 
    (ps_expr (by exact (pe_callLS (i := 0) GL.F (hr.mono (by decide)) rfl (Or.inl rfl) GL.kp GL.b (fun σ => passAt tk σ) (by exact (pa_cons (pv 1) (pa_cons (pv 2) pa_nil)))))))) (fun a oe cls d pn hz hf => (pss_one 
    (ps_if (PW.pt (pw_and (pt_val (pe_callB (id := "isinstance") (r := rIsX K CE a cls d) (call_isX XC hz hf) (by rfl) nis (by decide +kernel) (pa_cons (pv 3) (pa_cons (pe_glob (v := .ref CG) rfl mG rfl) pa_nil)))) (pw_and1 (pt_not (pt_val (pe_callB (id := "isinstance") (r := rIsi K) call_isi (by rfl) nis (by decide +kernel) (pa_cons (pe_xf GE.xf GE.no1 hz hf (pv 3)) (pa_cons (pe_bltn (by rfl) nb (by decide +kernel) (v := .ty "bool") rfl) pa_nil)))))))) (pss_one 
      (ps_ret (pe_tup (pa_cons (pe_xf GE.xf GE.no1 hz hf (pv 3)) (pa_cons (pe_xf GE.xf GE.no2 hz hf (pv 3)) pa_nil))))) pss_nil)))) (pss_one 
  (ps_ret pe_non))), ?_⟩
      refine ⟨rfl, _, rfl, _, rfl, t, v, rfl, ha.arg fun d H1 nd S1 e => ⟨true, GE.te, fun _ a haa => ?_, fun q => nomatch q⟩⟩
      refine ⟨_, rfl, _, _, true, d, _, rfl, rfl, rfl, e, .own CG, kg, _, rfl, if_tr rfl ?_⟩
      refine ⟨_, rfl, rfl, rfl, d, _, _, rfl, e, lk_ix, _, _, _, _, false, rfl, .ty "bool", .base (.int j), kit_ty kt_int_bool, _, rfl, iteT ?_⟩
      refine ⟨_, rfl, rfl, rfl, d, _, _, rfl, e, lk_ix, _, rfl, rfl, rfl, d, _, _, rfl, e, lk_wh, (by show 2 ≤ sizeLine; decide), fun y hy => ?_⟩
      exact k _ y (S1.trans (new_same hy)) upd_same
theorem ok_Lno_tie {f C CB CN CG fF fA fR fP fI : Addr} {fd fdF fdA fdR fdP fdI : FuncData} (F : Fun K "_law_no_tie" "_law_no_tie" s_Lno_tie f fd) (c : BoC K CB) (nis : mg "isinstance" = none)
    (GF : Mt P w K mg base (L2.CX P w) 4 CB "fitting" fF fdF ["self", "p", "q"] (spFit C CB CN)) (GA : Mt P w K mg base (L2.CX P w) 4 CB "bars" fA fdA ["self", "p", "q", "r"] (spBars C CB CN)) (GR : Mt P w K mg base (L2.CX P w) 4 CB "barring" fR fdR ["self", "t"] (spBarring C CB CN))
    (FP : FnC P w K mg base 1 fP fdP ["_law_answer", "_law_due"] spPO) (mP : mg "_law_plain" = some (.ref fP)) (kP : PySem.W.keepIn K (.ref fP) = true) (bP : Binds K fdP ["_law_answer", "_law_due"] []) (GN : Ex P w K mg base "NoTie" "tie" CN fI fdI ["self", "tie"]) (XC : ExcC K CN) (mG : mg "GuestError" = some (.ref CG)) (kg : PySem.W.kitOne K (.ref CN) (.ref CG) = some true) :
    FnOk P w K mg base CX0 5 f fd ["_law_book", "_law_odd", "_law_tie", "_law_way"] (spNoT C CB) := by
  refine F.ok sc_Lno_tie (fun vs H Q E h => ?_) (fun cdv A outer s H vs Q E hr h => ?_)
  · obtain ⟨x, ns, L, o, t, way, rfl, _⟩ := h
    rfl
  · obtain ⟨x, ns, L, o, t, way, rfl, hB, gb, LA, l64, so, no, lt, k⟩ := h
    obtain ⟨dx, bt, bb, bl, br, a1, _⟩ := id hB
    have hT : tieB ns (.int (t : Nat)) = true := tie_nat lt
    have io : ∃ s, Is H o s := ⟨.sc o, rfl, so⟩
    refine ⟨_, (pss_cons 
  (ps_try_as (i := 4) (Wout := fun _ _ _ _ => False) rfl rfl sc_Lno_tie.nd rfl rfl ⟨rfl, by decide, Or.inl GN.m⟩ takes0 (fun W pn xe tk _ => (pss_one 
    (ps_if (pt_cmpR op_eq (pv 3) pe_int (nomark _)) (pss_one 
      (ps_expr (by exact (pmetS (pv 0) c.cl GA.M GA.F hr GA.b (fun σ => passAt tk σ) (by exact (pa_cons (pv 2) (pa_cons (pv 1) (pa_cons pe_non pa_nil)))))))) (pss_one 
      (ps_if (pt_cmpR op_eq (pv 3) pe_int (nomark _)) (pss_one 
        (ps_expr (by exact (pmetS (pv 0) c.cl GF.M GF.F hr GF.b (fun σ => passAt tk σ) (by exact (pa_cons (pv 1) (pa_cons (pe_un un_neg pe_int) pa_nil))))))) (pss_one 
        (ps_if (pt_cmpR op_eq (pv 3) pe_int (nomark _)) (pss_one 
          (ps_expr (by exact (pmetS (pv 0) c.cl GF.M GF.F hr GF.b (fun σ => passAt tk σ) (by exact (pa_cons (pv 2) (pa_cons (pv 1) pa_nil))))))) (pss_one 
          (ps_if (pt_cmpR op_eq (pv 3) pe_int (nomark _)) (pss_one 
            (ps_expr (by exact (pmetS (pv 0) c.cl GA.M GA.F hr GA.b (fun σ => passAt tk σ) (by exact (pa_cons (pv 2) (pa_cons (pv 2) (pa_cons (pv 1) pa_nil)))))))) (pss_one 
            (ps_expr (by exact (pmetS (pv 0) c.cl GR.M GR.F hr GR.b (fun σ => passAt tk σ) (by exact (pa_cons (pv 1) pa_nil))))))))))))))) (fun a oe cls d pn hz hf => (pss_one 
    (ps_ret (pe_and (pe_callB (id := "isinstance") (r := rIsX K CN a cls d) (call_isX XC hz hf) (by rfl) nis (by decide +kernel) (pa_cons (pv 4) (pa_cons (pe_glob (v := .ref CG) rfl mG rfl) pa_nil))) (pe_one (pe_callC (pr := (a, oe)) FP (L2H.RoomH.mono (k := 4) ⟨hr.dp, hr.un⟩ (by decide)) (List.mem_cons_self ..) (by rfl) mP kP bP (pa_cons (pe_xf GN.xf GN.no hz hf (pv 4)) (pa_cons (pv 1) pa_nil))))))))) (pss_one 
  (ps_ret pe_bl))), ?_⟩
    have nob : ∀ t b l r, (bf t b l r).lookup ("fitting" : Str) = none ∧ (bf t b l r).lookup ("bars" : Str) = none ∧ (bf t b l r).lookup ("barring" : Str) = none := fun t b l r =>
      ⟨bf_no _ _ _ _ (by decide +kernel) (by decide +kernel) (by decide +kernel) (by decide +kernel), bf_no _ _ _ _ (by decide +kernel) (by decide +kernel) (by decide +kernel) (by decide +kernel), bf_no _ _ _ _ (by decide +kernel) (by decide +kernel) (by decide +kernel) (by decide +kernel)⟩
    refine ⟨_, rfl, rfl, _, rfl, ifD (fun c0 => ?_) (fun c0 => ?_)⟩
    · refine ⟨_, rfl, x, dx, _, rfl, a1, (nob _ _ _ _).2.1, _, rfl, _, rfl, x, ns, L, _, _, _, rfl, hB, fun y hy => ?_, fun y hy => ?_, fun p q r e1 e2 e3 => by cases e3⟩
      · simp only [List.mem_cons, List.not_mem_nil, or_false] at hy
        rcases hy with rfl | rfl | rfl
        · exact kn_int _
        · exact io
        · exact ⟨.sc .non, rfl, rfl⟩
      · obtain rfl := first_0 no (first_s hT hy)
        exact fun d H1 nd S1 e => ⟨true, GN.te, fun _ a haa => ⟨_, rfl, _, _, true, d, _, rfl, rfl, rfl, e, .own CG, kg, _, rfl, if_tr rfl ⟨_, rfl, rfl, rfl, d, _, _, rfl, e, lk_ti, _, rfl, _, rfl, so, k _ S1⟩⟩, fun q => nomatch q⟩
    refine ⟨_, rfl, rfl, _, rfl, ifD (fun c1 => ?_) (fun c1 => ?_)⟩
    · refine ⟨_, rfl, x, dx, _, rfl, a1, (nob _ _ _ _).1, _, rfl, _, rfl, x, ns, L, _, _, rfl, hB, gb, fun y hy => ?_, fun y hy => ?_, fun p q e1 e2 lp => odd_no no e1 lp⟩
      · simp only [List.mem_cons, List.not_mem_nil, or_false] at hy
        rcases hy with rfl | rfl
        · exact io
        · exact kn_int _
      · obtain rfl := first_0 no hy
        exact fun d H1 nd S1 e => ⟨true, GN.te, fun _ a haa => ⟨_, rfl, _, _, true, d, _, rfl, rfl, rfl, e, .own CG, kg, _, rfl, if_tr rfl ⟨_, rfl, rfl, rfl, d, _, _, rfl, e, lk_ti, _, rfl, _, rfl, so, k _ S1⟩⟩, fun q => nomatch q⟩
    refine ⟨_, rfl, rfl, _, rfl, ifD (fun c2 => ?_) (fun c2 => ?_)⟩
    · refine ⟨_, rfl, x, dx, _, rfl, a1, (nob _ _ _ _).1, _, rfl, _, rfl, x, ns, L, _, _, rfl, hB, gb, fun y hy => ?_, fun y hy => ?_, fun p q e1 e2 lp lq => odd_no no e2 lq⟩
      · simp only [List.mem_cons, List.not_mem_nil, or_false] at hy
        rcases hy with rfl | rfl
        · exact kn_int _
        · exact io
      · obtain rfl := first_0 no (first_s hT hy)
        exact fun d H1 nd S1 e => ⟨true, GN.te, fun _ a haa => ⟨_, rfl, _, _, true, d, _, rfl, rfl, rfl, e, .own CG, kg, _, rfl, if_tr rfl ⟨_, rfl, rfl, rfl, d, _, _, rfl, e, lk_ti, _, rfl, _, rfl, so, k _ S1⟩⟩, fun q => nomatch q⟩
    refine ⟨_, rfl, rfl, _, rfl, ifD (fun c3 => ?_) (fun c3 => ?_)⟩
    · refine ⟨_, rfl, x, dx, _, rfl, a1, (nob _ _ _ _).2.1, _, rfl, _, rfl, _, rfl, x, ns, L, _, _, _, rfl, hB, fun y hy => ?_, fun y hy => ?_, fun p q r e1 e2 e3 lp lq lr => odd_no no e3 lr⟩
      · simp only [List.mem_cons, List.not_mem_nil, or_false] at hy
        rcases hy with rfl | rfl | rfl
        · exact kn_int _
        · exact kn_int _
        · exact io
      · obtain rfl := first_0 no (first_s hT (first_s hT hy))
        exact fun d H1 nd S1 e => ⟨true, GN.te, fun _ a haa => ⟨_, rfl, _, _, true, d, _, rfl, rfl, rfl, e, .own CG, kg, _, rfl, if_tr rfl ⟨_, rfl, rfl, rfl, d, _, _, rfl, e, lk_ti, _, rfl, _, rfl, so, k _ S1⟩⟩, fun q => nomatch q⟩
    · refine ⟨_, rfl, x, dx, _, rfl, a1, (nob _ _ _ _).2.2, _, rfl, x, ns, L, _, rfl, hB, LA, l64, fun y hy => ?_, fun y hy => ?_, fun p e1 lp => odd_no no e1 lp⟩
      · rw [List.mem_singleton.mp hy]
        exact io
      · obtain rfl := first_0 no hy
        exact fun d H1 nd S1 e => ⟨true, GN.te, fun _ a haa => ⟨_, rfl, _, _, true, d, _, rfl, rfl, rfl, e, .own CG, kg, _, rfl, if_tr rfl ⟨_, rfl, rfl, rfl, d, _, _, rfl, e, lk_ti, _, rfl, _, rfl, so, k _ S1⟩⟩, fun q => nomatch q⟩
end
end J

set_option Elab.async false
set_option linter.all false
set_option maxRecDepth 100000
set_option maxHeartbeats 8000000
namespace J
open PySem PySem.Spec PyProof.Rows L2
/-! ### the mathematics of the law -/
theorem filt_self {A : List (List Int)} {p : List Int → Bool} : A.filter (fun t => decide (t ∈ A.filter p)) = A.filter p :=
  List.filter_congr fun x hx => by
    cases h : p x with
    | true => exact decide_eq_true (List.mem_filter.mpr ⟨hx, h⟩)
    | false =>
      refine decide_eq_false fun z => ?_
      have := (List.mem_filter.mp z).2
      rw [h] at this
      cases this
theorem inL_brd {ns : List Int} {ts : List (List Int)} : (A3 ns.length ns.length).filter (inL (brd ns ts)) = brd ns ts := by
  unfold inL brd
  exact filt_self
theorem inL_lts {ns : List Int} {ts : List (List Int)} : (A3 ns.length ns.length).filter (inL (lts ns ts)) = lts ns ts := by
  unfold inL lts
  exact filt_self
theorem inL_A3 {ns : List Int} : (A3 ns.length ns.length).filter (inL (A3 ns.length ns.length)) = A3 ns.length ns.length := by
  rw [List.filter_eq_self]
  exact fun x hx => decide_eq_true hx
theorem least_filter {ns : List Int} {ts : List (List Int)} : ((A3 ns.length ns.length).filter (isL ns)).filter (inL (brd ns ts)) = (brd ns ts).filter (isL ns) := by
  rw [← inL_brd, List.filter_filter, List.filter_filter]
  refine List.filter_congr fun x _ => ?_
  rw [Bool.and_comm, inL_brd]
theorem min_ex : ∀ {L : List (List Int)}, L ≠ [] → ∃ t ∈ L, ∀ u ∈ L, TS.code 4 t ≤ TS.code 4 u
  | [], h => absurd rfl h
  | [t], _ => ⟨t, List.mem_cons_self, fun u hu => by
      rw [List.mem_singleton.mp hu]
      exact Int.le_refl _⟩
  | t :: v :: L, _ => by
    obtain ⟨m, hm, hl⟩ := min_ex (L := v :: L) (by simp)
    by_cases c : TS.code 4 t ≤ TS.code 4 m
    · refine ⟨t, List.mem_cons_self, fun u hu => ?_⟩
      rcases List.mem_cons.mp hu with rfl | hu
      · exact Int.le_refl _
      · exact Int.le_trans c (hl u hu)
    · refine ⟨m, List.mem_cons_of_mem _ hm, fun u hu => ?_⟩
      rcases List.mem_cons.mp hu with rfl | hu
      · omega
      · exact hl u hu
theorem least_ex {ns : List Int} {t : List Int} (g : GoodB ns) (ht : t ∈ A3 ns.length ns.length) : ∃ u ∈ A3 ns.length ns.length, isL ns u = true ∧ inR ns u t = true := by
  obtain ⟨p, q, r, rfl, ip, iq, ir⟩ := A3_in ht (ns := ns) rfl
  obtain ⟨m, hm, hl⟩ := min_ex (L := six ns p q r) (by simp [six])
  obtain ⟨a, b, c, rfl, ia, ib, ic⟩ := six_in g ip iq ir m hm
  refine ⟨[a, b, c], in_A3 ia ib ic, ?_, decide_eq_true hm⟩
  have sm := six_same g ip iq ir hm
  have := min_isL g ia ib ic (t := [a, b, c]) (by simp [six]) fun u hu => hl u ((sm u).mp hu)
  rw [← this]
  exact decide_eq_true rfl
theorem brd_eq {ns : List Int} {us ts : List (List Int)} (g : GoodB ns) (hu : ∀ u ∈ us, u ∈ A3 ns.length ns.length) (ht : ∀ u ∈ ts, u ∈ A3 ns.length ns.length) (h : ∀ t, t ∈ A3 ns.length ns.length → ((∃ u ∈ us, inR ns t u = true) ↔ ∃ u ∈ ts, inR ns t u = true)) : brd ns us = brd ns ts := by
  unfold brd
  refine List.filter_congr fun x hx => ?_
  rw [Bool.eq_iff_iff, List.any_eq_true, List.any_eq_true]
  exact h x hx
theorem brd_least {ns : List Int} (g : GoodB ns) : brd ns ((A3 ns.length ns.length).filter (isL ns)) = A3 ns.length ns.length := by
  unfold brd
  rw [List.filter_eq_self]
  intro x hx
  obtain ⟨u, hu, h1, h2⟩ := least_ex g hx
  exact List.any_eq_true.mpr ⟨u, List.mem_filter.mpr ⟨hu, h1⟩, inR_swap g hx h2⟩
/-- any readings of the least that are barred bar the same -/
theorem brd_again {ns : List Int} {ts us : List (List Int)} (g : GoodB ns) (ha : ∀ u ∈ ts, u ∈ A3 ns.length ns.length) (h : Paired (fun u m => inR ns u m = true) us ((brd ns ts).filter (isL ns))) : brd ns us = brd ns ts := by
  have hm : ∀ m ∈ (brd ns ts).filter (isL ns), m ∈ brd ns ts := fun m hm => (List.mem_filter.mp hm).1
  have hb : ∀ m ∈ brd ns ts, isL ns m = true → m ∈ (brd ns ts).filter (isL ns) := fun m h1 h2 => List.mem_filter.mpr ⟨h1, h2⟩
  generalize (brd ns ts).filter (isL ns) = M at h hm hb
  have fw : ∀ u ∈ us, ∃ m ∈ M, inR ns u m = true := by
    clear hm hb
    induction h with
    | nil => intro u hu; cases hu
    | cons r _ ih =>
      intro u hu
      rcases List.mem_cons.mp hu with rfl | hu
      · exact ⟨_, List.mem_cons_self, r⟩
      · obtain ⟨m, h1, h2⟩ := ih u hu
        exact ⟨m, List.mem_cons_of_mem _ h1, h2⟩
  have bw : ∀ m ∈ M, ∃ u ∈ us, inR ns u m = true := by
    clear hm hb fw
    induction h with
    | nil => intro u hu; cases hu
    | cons r _ ih =>
      intro u hu
      rcases List.mem_cons.mp hu with rfl | hu
      · exact ⟨_, List.mem_cons_self, r⟩
      · obtain ⟨m, h1, h2⟩ := ih u hu
        exact ⟨m, List.mem_cons_of_mem _ h1, h2⟩
  have uA : ∀ u ∈ us, u ∈ A3 ns.length ns.length := fun u hu => by
    obtain ⟨m, h1, h2⟩ := fw u hu
    exact inR_A3 g (brd_A3 m (hm m h1)) h2
  refine brd_eq g uA ha fun t ht => ⟨?_, ?_⟩
  · rintro ⟨u, hu, e⟩
    obtain ⟨m, h1, h2⟩ := fw u hu
    have := brd_in g ha (inR_trans g (brd_A3 m (hm m h1)) e h2) (hm m h1)
    exact (brd_mem g ha).mp this
  · intro e
    have tb : t ∈ brd ns ts := (brd_mem g ha).mpr e
    obtain ⟨m, m1, m2, m3⟩ := least_ex g ht
    have mb := brd_in g ha m3 tb
    obtain ⟨u, hu, e2⟩ := bw m (hb m mb m2)
    exact ⟨u, hu, inR_trans g (uA u hu) (inR_swap g ht m3) (inR_swap g m1 e2)⟩
theorem brd_nil {ns : List Int} : brd ns [] = [] := by
  unfold brd
  rw [List.filter_eq_nil_iff]
  intro a _ h
  cases h
theorem brd_ne_lts {ns : List Int} {ts : List (List Int)} (h : 0 < ns.length) : brd ns ts ≠ lts ns ts := by
  intro e
  have ht : [0, 0, 0] ∈ A3 ns.length ns.length := in_A3 (ns := ns) ⟨by decide, by omega⟩ ⟨by decide, by omega⟩ ⟨by decide, by omega⟩
  by_cases c : [0, 0, 0] ∈ brd ns ts
  · have c2 := c
    rw [e] at c2
    have := (List.mem_filter.mp c2).2
    rw [decide_eq_true c] at this
    cases this
  · refine c ?_
    rw [e]
    exact List.mem_filter.mpr ⟨ht, by rw [decide_eq_false c]; rfl⟩
/-- the indices of the wrong ones -/
def wrs : Nat → List Bool → List Int
  | _, [] => []
  | k, true :: gs => wrs (k + 1) gs
  | k, false :: gs => (k : Int) :: wrs (k + 1) gs
theorem wrs_app : ∀ {gs hs : List Bool} {k : Nat}, wrs k (gs ++ hs) = wrs k gs ++ wrs (k + gs.length) hs
  | [], hs, k => by simp [wrs]
  | true :: gs, hs, k => by
    show wrs (k + 1) (gs ++ hs) = wrs (k + 1) gs ++ wrs (k + (gs.length + 1)) hs
    rw [wrs_app, show k + 1 + gs.length = k + (gs.length + 1) by omega]
  | false :: gs, hs, k => by
    show (k : Int) :: wrs (k + 1) (gs ++ hs) = (k : Int) :: (wrs (k + 1) gs ++ wrs (k + (gs.length + 1)) hs)
    rw [wrs_app, show k + 1 + gs.length = k + (gs.length + 1) by omega]
theorem wrs_take {gs : List Bool} {i : Nat} {g : Bool} (h : gs[i]? = some g) : wrs 0 (gs.take (i + 1)) = wrs 0 (gs.take i) ++ if g = true then [] else [(i : Int)] := by
  have hi := (List.getElem?_eq_some_iff.mp h).1
  rw [List.take_add_one, h, wrs_app, List.length_take, Nat.min_eq_left (Nat.le_of_lt hi), Nat.zero_add]
  cases g <;> rfl
theorem wrs_len : ∀ {gs : List Bool} {k : Nat}, (wrs k gs).length ≤ gs.length
  | [], _ => Nat.le_refl _
  | true :: gs, k => Nat.le_succ_of_le (wrs_len (gs := gs))
  | false :: gs, k => Nat.succ_le_succ (wrs_len (gs := gs))
theorem wrs_head : ∀ {gs : List Bool} {k : Nat} {a : Int} {r : List Int}, wrs k gs = a :: r → ∃ j : Nat, a = ((k + j : Nat) : Int) ∧ gs[j]? = some false ∧ ∀ (i : Nat) (g : Bool), i < j → gs[i]? = some g → g = true
  | [], _, _, _, h => by cases h
  | true :: gs, k, a, r, h => by
    obtain ⟨j, e1, e2, e3⟩ := wrs_head (gs := gs) (k := k + 1) h
    refine ⟨j + 1, by rw [e1]; congr 1; omega, by simpa using e2, fun i g hi eg => ?_⟩
    cases i with
    | zero => simpa using eg.symm
    | succ i => exact e3 i g (by omega) (by simpa using eg)
  | false :: gs, k, a, r, h => by
    injection h with h1 h2
    exact ⟨0, by rw [← h1]; rfl, rfl, fun i g hi => by omega⟩
/-! ### what the hand's draws leave -/
theorem WAt.but {H H' : Hp} {h q w : Addr} {ns : List Int} {L : List (List Int)} (W : WAt H w ns L) (hh : Hand H h q) (gb : GoodB ns) (n2 : 2 ≤ ns.length) (B : But h H H') : WAt H' w ns L := by
  obtain ⟨b, z, po, ro, a1, a2, a3, a4, a5⟩ := W
  obtain ⟨cs, i, r, t, e1, _⟩ := hh
  have nl : ∀ (a : Addr) (xs : List V), H a = some (.lst xs) → (∀ u v ws, xs = u :: v :: ws → (∀ x, u ≠ .ref x) ∨ ∀ j, v ≠ .int j) → 2 ≤ xs.length → H' a = some (.lst xs) := fun a xs ea hx hl => by
    refine B a _ (fun e => ?_) ea
    rw [e, e1] at ea
    have ea := HO.lst.inj (Option.some.inj ea)
    rcases hx _ _ _ ea.symm with k | k
    · exact k _ rfl
    · exact k _ rfl
  have two : ∀ {α : Type} {ls : List α}, 2 ≤ ls.length → ∃ u v ws, ls = u :: v :: ws := fun {α} {ls} hl => by
    match ls, hl with
    | u :: v :: ws, _ => exact ⟨u, v, ws, rfl⟩
  have refs : ∀ (g : Nat → Addr) (u v : V) (ws : List V), refsL ns.length g = u :: v :: ws → (∀ x, u ≠ .ref x) ∨ ∀ j, v ≠ .int j := fun g u v ws e => .inr fun j ej => by
    have : (refsL ns.length g)[1]? = some v := by rw [e]; rfl
    rw [refs_at (by omega), ej] at this
    cases this
  have bools : ∀ (g : Nat → Bool) (u v : V) (ws : List V), boolsL ns.length g = u :: v :: ws → (∀ x, u ≠ .ref x) ∨ ∀ j, v ≠ .int j := fun g u v ws e => .inl fun j ej => by
    have : (boolsL ns.length g)[0]? = some u := by rw [e]; rfl
    rw [bools_at (by omega), ej] at this
    cases this
  have lr : ∀ g, 2 ≤ (refsL ns.length g).length := fun g => by simp only [refsL, List.length_map, List.length_range]; exact n2
  have lb : ∀ g, 2 ≤ (boolsL ns.length g).length := fun g => by simp only [boolsL, List.length_map, List.length_range]; exact n2
  refine ⟨b, z, po, ro, B _ _ (fun e => ?_) a1, nl _ _ a2 (fun u v ws e => .inl fun x ex => ?_) (by rw [List.length_map]; exact n2), nl _ _ a3 (refs _) (lr _), fun p hp => nl _ _ (a4 p hp) (refs _) (lr _), fun p q hp hq => nl _ _ (a5 p q hp hq) (bools _) (lb _)⟩
  · rw [e, e1] at a1
    cases a1
  · cases ns with
    | nil => cases e
    | cons m ms =>
      rw [List.map_cons] at e
      injection e with e _
      rw [← e] at ex
      cases ex
theorem TupsAt.but {H H' : Hp} {h z : Addr} {us : List V} {L : List (List Int)} (T : TupsAt H z L) (eh : H h = some (.lst us)) (B : But h H H') : TupsAt H' z L := by
  obtain ⟨ps, a, b, c⟩ := T
  exact ⟨ps, tup_but eh B a, b, fun j x ts e1 e2 => tup_but eh B (c j x ts e1 e2)⟩
theorem TabAt.but {n : Nat} {H H' : Hp} {h z : Addr} {us : List V} {L : List (List Int)} (T : TabAt n L H z) (eh : H h = some (.lst us)) (B : But h H H') : TabAt n L H' z := by
  obtain ⟨ps, a, b, c⟩ := T
  exact ⟨ps, tup_but eh B a, b, fun p x e => (c p x e).keep fun y xs e => tup_but eh B e⟩
theorem BookAt.but {C CB : Addr} {H H' : Hp} {h x : Addr} {us : List V} {ns : List Int} {L : List (List Int)} (T : BookAt C CB H x ns L) (eh : H h = some (.lst us)) (B : But h H H') : BookAt C CB H' x ns L := by
  obtain ⟨dx, t, b, l, r, a1, a2, a3, a4, a5⟩ := T
  exact ⟨dx, t, b, l, r, B _ _ (fun e => by rw [e, eh] at a1; cases a1) a1, a2.but eh B, a3.but eh B, a4.but eh B, a5.but eh B⟩
/-- what is no list stays, and all that stood in S0 -/
def NL (S0 H H' : Hp) : Prop := ∀ a o, H a = some o → ((∀ xs, o ≠ .lst xs) ∨ S0 a ≠ none) → H' a = some o
theorem NL.refl (S0 H : Hp) : NL S0 H H := fun _ _ e _ => e
theorem NL.trans {S0 H H1 H2 : Hp} (a : NL S0 H H1) (b : NL S0 H1 H2) : NL S0 H H2 := fun c o e n => b c o (a c o e n) n
theorem NL.put {S0 H : Hp} {a : Addr} {xs ys : List V} (e : H a = some (.lst xs)) (n : S0 a = none) : NL S0 H (upd H a (.lst ys)) := fun c o ec h => by
  by_cases q : c = a
  · subst q
    rw [e] at ec
    obtain rfl := Option.some.inj ec
    rcases h with h | h
    · exact (h _ rfl).elim
    · exact (h n).elim
  · rw [upd_ne q]
    exact ec
theorem NL.same {S0 H H' : Hp} (S : Same H H') : NL S0 H H' := fun a o e _ => S a o e
theorem NL.tup {S0 H H' : Hp} (N : NL S0 H H') {b : Addr} {xs : List V} (e : H b = some (.tup xs)) : H' b = some (.tup xs) := N _ _ e (.inl fun _ z => nomatch z)
theorem TupsAt.nl {S0 H H' : Hp} {z : Addr} {L : List (List Int)} (T : TupsAt H z L) (N : NL S0 H H') : TupsAt H' z L := by
  obtain ⟨ps, a, b, c⟩ := T
  exact ⟨ps, N.tup a, b, fun j x ts e1 e2 => N.tup (c j x ts e1 e2)⟩
theorem TabAt.nl {S0 : Hp} {n : Nat} {H H' : Hp} {z : Addr} {L : List (List Int)} (T : TabAt n L H z) (N : NL S0 H H') : TabAt n L H' z := by
  obtain ⟨ps, a, b, c⟩ := T
  exact ⟨ps, N.tup a, b, fun p x e => (c p x e).keep fun y xs e => N.tup e⟩
theorem TiesAt.nl {S0 H H' : Hp} {C x : Addr} {ns : List Int} (T : TiesAt C H x ns) (N : NL S0 H H') : TiesAt C H' x ns := by
  obtain ⟨d, tb, a, b⟩ := T
  exact ⟨d, tb, N _ _ a (.inl fun _ z => nomatch z), N.tup b⟩
theorem BookAt.nl {S0 H H' : Hp} {C CB : Addr} {x : Addr} {ns : List Int} {L : List (List Int)} (T : BookAt C CB H x ns L) (N : NL S0 H H') : BookAt C CB H' x ns L := by
  obtain ⟨dx, t, b, l, r, a1, a2, a3, a4, a5⟩ := T
  exact ⟨dx, t, b, l, r, N _ _ a1 (.inl fun _ z => nomatch z), a2.nl N, a3.nl N, a4.nl N, a5.nl N⟩
theorem NL.old {S0 H H' : Hp} (N : NL S0 H H') {a : Addr} {o : HO} (e : H a = some o) (n : S0 a ≠ none) : H' a = some o := N _ _ e (.inr n)
theorem Hand.nl {S0 H H' : Hp} {h q : Addr} (x : Hand H h q) (N : NL S0 H H') (n1 : S0 h ≠ none) (n2 : S0 q ≠ none) : Hand H' h q := by
  obtain ⟨cs, i, r, t, e1, e2, z⟩ := x
  exact ⟨cs, i, r, t, N.old e1 n1, N.old e2 n2, z⟩
theorem some_ne {H : Hp} {a : Addr} {o : HO} (e : H a = some o) : H a ≠ none := fun z => by rw [e] at z; cases z
def spShape2 : Sp := fun vs H Q _ => ∃ (h q : Addr) (v : V) (s : Sh), vs = [.ref h, v] ∧ Hand H h q ∧ Is H v s ∧ (s.isL || s.isT) = true ∧ v ≠ .ref h ∧ ∀ (H' : Hp) (z : Addr) (s' : Sh), But h H H' → Hand H' h q → Is H' (.ref z) s' → items s' = items s → (s'.isL || s'.isT) = true → z ≠ h → (s'.isL = true → H z = none) → Q (.ref z) H'
section
variable {P : Program} {w : World} {K : PySem.W.Frag} {mg : Str → Option Value} {base : Heap}
theorem ok_Lshape2 {f fD : Addr} {fd fdD : FuncData} (F : Fun K "_law_shape" "_law_shape" s_Lshape f fd) (nli : mg "list" = none) (nt : mg "tuple" = none) (GD : Cal P w K mg base CX0 2 "_law_draw" fD fdD ["_law_hand_here", "_law_many"] spDraw) : FnOk P w K mg base CX0 3 f fd ["_law_hand_here", "_law_row"] spShape2 := by
  refine F.ok sc_Lshape (fun vs H Q E h => ?_) (fun cdv A outer s H vs Q E hr h => ?_)
  · obtain ⟨h, q, t, ts, rfl, _⟩ := h
    rfl
  · obtain ⟨h, q, v, s0, rfl, hh, iv, sq, nv, k⟩ := h
    refine ⟨_, (pss_cons 
  (ps_if (pt_cmpR op_eq (pcal GD hr pass0 (pa_cons (pv 0) (pa_cons pe_int pa_nil))) pe_int (nomark _)) (pss_one 
    (ps_ret (pe_callTy (T := "list") (r := rLst K) call_list_of (by rfl) nli (by decide +kernel) (pa_cons (pv 1) pa_nil)))) pss_nil) (pss_one 
  (ps_ret (pe_callTy (T := "tuple") (r := rTup K) call_tuple_of (by rfl) nt (by decide +kernel) (pa_cons (pv 1) pa_nil))))), ?_⟩
    refine ⟨_, rfl, h, q, 2, rfl, by decide, by decide, hh, fun n H1 v0 v2 b1 h1 => ⟨rfl, _, rfl, ?_⟩⟩
    have i1 := iv.but nv b1
    cases s0 with
    | sc u => cases sq
    | dk => cases sq
    | lst xs =>
      obtain ⟨t, rfl, et⟩ := i1
      have nth : t ≠ h := fun e => nv (by rw [e])
      refine ifD (fun c => ?_) (fun c => ?_)
      · refine ⟨_, rfl, t, _, rfl, .inl (SqL.of et), fun z hz => ?_⟩
        have nz := hand_free h1 hz
        exact k _ z (.lst xs) (b1.trans (But.new hz)) (h1.new hz) ⟨z, rfl, upd_same⟩ rfl rfl nz fun _ => b1.free nz hz
      · refine ⟨_, rfl, t, _, rfl, .inl ⟨SqL.of et, fun z hz => ?_⟩⟩
        have nz := hand_free h1 hz
        exact k _ z (.tup xs) (b1.trans (But.new hz)) (h1.new hz) ⟨z, rfl, upd_same⟩ rfl rfl nz fun e => by cases e
    | tup xs =>
      obtain ⟨t, rfl, et⟩ := i1
      have nth : t ≠ h := fun e => nv (by rw [e])
      refine ifD (fun c => ?_) (fun c => ?_)
      · refine ⟨_, rfl, t, _, rfl, .inr (SqT.of et), fun z hz => ?_⟩
        have nz := hand_free h1 hz
        exact k _ z (.lst xs) (b1.trans (But.new hz)) (h1.new hz) ⟨z, rfl, upd_same⟩ rfl rfl nz fun _ => b1.free nz hz
      · exact ⟨_, rfl, t, _, rfl, .inr ⟨SqT.of et, k _ t (.tup xs) b1 h1 ⟨t, rfl, et⟩ rfl rfl nth fun e => by cases e⟩⟩
end
end J

set_option Elab.async false
set_option linter.all false
set_option maxRecDepth 100000
set_option maxHeartbeats 8000000
namespace J
open PySem PySem.Spec PyProof.Rows L2
abbrev s_law : Stmt := top 46
theorem sc_law : FnScope ["_law_script", "_law_hand_here", "_law_many", "_law_backs_here", "_law_ties", "_law_entries", "_law_things", "_law_wrong", "_law_odd", "_law_call", "_law_word", "_law_right", "_law_world", "_law_handed", "_law_book", "_law_lets", "_law_three", "_law_least", "_law_others", "_law_again", "_law_turned", "_law_strange", "_law_way", "_law_k", "_law_entry_here"] ["_law_script"] (defScope s_law) := ⟨rfl, rfl, rfl, by decide +kernel, rfl, by decide +kernel, by decide +kernel⟩
abbrev Nlaw : List Str := ["_law_script", "_law_hand_here", "_law_many", "_law_backs_here", "_law_ties", "_law_entries", "_law_things", "_law_wrong", "_law_odd", "_law_call", "_law_word", "_law_right", "_law_world", "_law_handed", "_law_book", "_law_lets", "_law_three", "_law_least", "_law_others", "_law_again", "_law_turned", "_law_strange", "_law_way", "_law_k", "_law_entry_here"]
def spLaw (K : PySem.W.Frag) : Sp := fun vs H Q _ => ∃ (a : Addr) (ns : List Int), vs = [.ref a] ∧ SqL K H a (ns.map V.int) ∧ ns.length ≤ 63 ∧ ∀ H', Q (.bl true) H'
/-- the statements from the i-th on, n of them -/
abbrev cut (i n : Nat) : List Stmt := ((defBody s_law).drop i).take n
/-- the body's frame -/
abbrev XL (P : Program) (w : World) (K : PySem.W.Frag) (mg : Str → Option Value) (base : Heap) (f : Addr) (cdv : Value) (A : Around) (outer : List Env) (s : Shared) (H : Hp) (E : XK) : Cx :=
  (cxOf CX0 P w K mg base Nlaw "law" (defScope s_law) f cdv A outer s H E).nox
/-- statements that lead from M to M' -/
def SegT (X : Cx) (sts : List Stmt) (M M' : L2.St → Hp → Prop) : Prop := ∀ rest u, PSs X rest u → ∃ t, PSs X (sts ++ rest) t ∧ ∀ D σ H, M σ H → (∀ σ' H', M' σ' H' → u D σ' H') → t D σ H
/-- statements that end with True -/
def EndT (X : Cx) (sts : List Stmt) (M : L2.St → Hp → Prop) : Prop := ∃ t, PSs X sts t ∧ ∀ D σ H, M σ H → (∀ H', D.rt (.bl true) H') → t D σ H
theorem SegT.end {X : Cx} {sts rest : List Stmt} {M M' : L2.St → Hp → Prop} (h : SegT X sts M M') (e : EndT X rest M') : EndT X (sts ++ rest) M := by
  obtain ⟨u, pu, hu⟩ := e
  obtain ⟨t, pt, ht⟩ := h rest u pu
  exact ⟨t, pt, fun D σ H m k => ht D σ H m fun σ' H' m' => hu D σ' H' m' k⟩
structure Core (C h q b x : Addr) (ns : List Int) (H : Hp) : Prop where
  hh : Hand H h q
  gb : GoodB ns
  n2 : 2 ≤ ns.length
  eb : H b = some (.lst (ns.map V.int))
  T : TiesAt C H x ns
theorem Core.nbh {C h q b x : Addr} {ns : List Int} {H : Hp} (c : Core C h q b x ns H) : b ≠ h := by
  intro e
  obtain ⟨cs, i, r, t, e1, _⟩ := c.hh
  have e2 := c.eb
  have n2 := c.n2
  rw [e, e1] at e2
  have e2 := HO.lst.inj (Option.some.inj e2)
  cases ns with
  | nil => cases e2
  | cons m ms =>
    rw [List.map_cons] at e2
    injection e2 with e2 _
    cases e2
theorem Core.keep {C h q b x : Addr} {ns : List Int} {H H' : Hp} (c : Core C h q b x ns H) (S : Same H H') : Core C h q b x ns H' := ⟨c.hh.keep S, c.gb, c.n2, S _ _ c.eb, c.T.keep S⟩
theorem Hand.at_ {H : Hp} {h q : Addr} (x : Hand H h q) : ∃ us, H h = some (.lst us) := by
  obtain ⟨cs, i, r, t, e1, _⟩ := x
  exact ⟨_, e1⟩
theorem Core.but {C h q b x : Addr} {ns : List Int} {H H' : Hp} (c : Core C h q b x ns H) (B : But h H H') (h' : Hand H' h q) : Core C h q b x ns H' := by
  obtain ⟨us, eh⟩ := c.hh.at_
  exact ⟨h', c.gb, c.n2, B _ _ c.nbh c.eb, c.T.but eh B⟩
theorem Core.new {C h q b x a : Addr} {ns : List Int} {H : Hp} {o : HO} (c : Core C h q b x ns H) (n : H a = none) : Core C h q b x ns (upd H a o) := c.keep (new_same n)
def M4 (C : Addr) (σ : L2.St) (H : Hp) : Prop := ∃ (a h q b x : Addr) (ns : List Int), σ = [some (.ref a), some (.ref h), some (.int (ns.length : Nat)), some (.ref b), some (.ref x), none, none, none, none, none, none, none, none, none, none, none, none, none, none, none, none, none, none, none, none] ∧ Core C h q b x ns H
def M0 (K : PySem.W.Frag) (σ : L2.St) (H : Hp) : Prop := ∃ (a : Addr) (ns : List Int), σ = start Nlaw [.ref a] ∧ SqL K H a (ns.map V.int) ∧ ns.length ≤ 63
section
variable {P : Program} {w : World} {K : PySem.W.Frag} {mg : Str → Option Value} {base : Heap} {f : Addr} {cdv : Value} {A : Around} {outer : List Env} {s : Shared} {H0 : Hp} {E0 : XK}
theorem seg1 {C CB fH fP fK fI : Addr} {fdH fdP fdK fdI : FuncData} (hr : Room 10 (XL P w K mg base f cdv A outer s H0 E0).A)
    (GH : Cal P w K mg base CX0 1 "_law_hand" fH fdH ["_law_script"] (spHand K)) (GP : Cal P w K mg base CX0 3 "_law_pick" fP fdP ["_law_hand_here", "_law_things"] spPick) (GK : Cal P w K mg base CX0 3 "_law_backs" fK fdK ["_law_hand_here", "_law_many"] spBacks)
    (mT : mg "Ties" = some (.ref C)) (MI : Mk K C fI) (FI : FnOk P w K mg base (L2.CX P w) 4 fI fdI ["self", "backs"] (spTies C CB)) (bI : Binds K fdI ["self", "backs"] []) : SegT (XL P w K mg base f cdv A outer s H0 E0) (cut 0 4) (M0 K) (M4 C) := by
  intro rest u hu
  have hr5 : Room 5 _ := hr.mono (by decide)
  refine ⟨_, (pss_cons 
  (ps_set (i := 1) sc_law.nd rfl (Or.inr rfl) (pcal GH hr pass0 (pa_cons (pv 0) pa_nil))) (pss_cons 
  (ps_set (i := 2) sc_law.nd rfl (Or.inr rfl) (pcal GP hr pass0 (pa_cons (pv 1) (pa_cons (pe_lst (pa_cons pe_int (pa_cons pe_int (pa_cons pe_int (pa_cons pe_int (pa_cons pe_int pa_nil)))))) pa_nil)))) (pss_cons 
  (ps_set (i := 3) sc_law.nd rfl (Or.inr rfl) (pcal GK hr pass0 (pa_cons (pv 1) (pa_cons (pv 2) pa_nil)))) (pss_cons 
  (ps_set (i := 4) sc_law.nd rfl (Or.inl rfl) (pe_make MI FI hr5 rfl mT bI .nil passL (pa_cons (pv 3) pa_nil))) hu)))), fun D σ H m k => ?_⟩
  obtain ⟨a, ns0, rfl, hS, hn⟩ := m
  refine ⟨_, rfl, a, ns0, rfl, hS, hn, fun Ha h q S0 hh0 hq0 hh => ?_⟩
  refine ⟨_, rfl, (by show 5 ≤ sizeLine; decide), fun l0 hl0 => ?_⟩
  obtain ⟨nl0, _⟩ := hh.same_h' hl0
  refine ⟨h, q, l0, _, rfl, hh.new hl0, nl0, upd_same, (by show 0 < 5; decide), (by show 5 ≤ 1000; decide), fun H1 y my b1 h1 => ?_⟩
  obtain ⟨m, rfl, m2, m4⟩ : ∃ m : Nat, y = .int (m : Nat) ∧ 2 ≤ m ∧ m ≤ 4 := by
    simp only [List.mem_cons, List.not_mem_nil, or_false] at my
    rcases my with rfl | rfl | rfl | rfl | rfl
    · exact ⟨2, rfl, by decide, by decide⟩
    · exact ⟨3, rfl, by decide, by decide⟩
    · exact ⟨2, rfl, by decide, by decide⟩
    · exact ⟨3, rfl, by decide, by decide⟩
    · exact ⟨4, rfl, by decide, by decide⟩
  clear b1 my
  refine ⟨_, rfl, _, rfl, h, q, (m : Nat), rfl, by omega, by omega, h1, fun ns b H2 ln gb b2 nb eb h2 => ?_⟩
  obtain rfl : m = ns.length := by omega
  refine ⟨_, rfl, mk_ties (s := .lst (ns.map V.int)) ⟨b, rfl, eb⟩ gb rfl rfl fun H3 x S3 nx TT => ⟨rfl, ?_⟩⟩
  exact k _ _ ⟨a, h, q, b, x, ns, rfl, h2.keep S3, gb, m2, S3 _ _ eb, TT⟩
end
end J

set_option Elab.async false
set_option linter.all false
set_option maxRecDepth 100000
set_option maxHeartbeats 8000000
namespace J
open PySem PySem.Spec PyProof.Rows L2
/-! ### the law: what is handed in -/
abbrev En : Type := Bool × V × Sh
def EntL (h : Addr) (m : Nat) (H : Hp) (ys : List V) (es : List En) : Prop := Paired (fun y (e : En) => EntAt h m H y e.1 e.2.1 e.2.2) ys es
theorem EntL.but {h : Addr} {m : Nat} {H H' : Hp} {ys : List V} {es : List En} (e : EntL h m H ys es) (B : But h H H') : EntL h m H' ys es := Paired.mapP e fun _ _ q => q.but B
theorem paired_app {α β : Type} {R : α → β → Prop} {x : α} {y : β} : ∀ {xs : List α} {ys : List β}, Paired R xs ys → R x y → Paired R (xs ++ [x]) (ys ++ [y])
  | _, _, .nil, r => .cons r .nil
  | _, _, .cons a t, r => .cons a (paired_app t r)
/-- the list at D grows, what the entries are made of is not D -/
theorem EntAt.put {h D : Addr} {m : Nat} {H : Hp} {y : V} {g : Bool} {v : V} {s : Sh} {xs ys : List V} (e : EntAt h m H y g v s) (eD : H D = some (.lst xs)) (nv : v ≠ .ref D) : EntAt h m (upd H D (.lst ys)) y g v s := by
  obtain ⟨z, a1, a2, a3, a4, a5, a6, a7⟩ := e
  have nz : z ≠ D := ne_of a3 eD (by intro z; cases z)
  exact ⟨z, a1, a2, by rw [upd_ne nz]; exact a3, a4.but (h := D) nv But.put, a5, a6, a7⟩
theorem paired_put {h D : Addr} {m : Nat} {H : Hp} {xs zs : List V} (eD : H D = some (.lst xs)) : ∀ {ys : List V} {es : List En}, EntL h m H ys es → (∀ e ∈ es, e.2.1 ≠ .ref D) → EntL h m (upd H D (.lst zs)) ys es
  | _, _, .nil, _ => .nil
  | _, _, .cons r t, n => .cons (r.put eD (n _ List.mem_cons_self)) (paired_put eD t fun e he => n e (List.mem_cons_of_mem _ he))
/-- the entries while they are drawn: H1 the heap before, D their list -/
structure GroE (h q : Addr) (m : Nat) (H1 H : Hp) (D : Addr) (i : Nat) : Prop where
  B : But h H1 H
  hh : Hand H h q
  f : H1 D = none
  nh : D ≠ h
  nq : D ≠ q
  ex : ∃ (ys : List V) (es : List En), H D = some (.lst ys) ∧ ys.length = i ∧ EntL h m H ys es ∧ ∀ e ∈ es, e.2.1 ≠ .ref D
def M8 (C : Addr) (σ : L2.St) (H : Hp) : Prop := ∃ (a h q b x D T W : Addr) (ns : List Int) (o : V) (ys : List V) (es : List En) (so : Sh), σ = [some (.ref a), some (.ref h), some (.int (ns.length : Nat)), some (.ref b), some (.ref x), some (.ref D), some (.ref T), some (.ref W), some o, none, none, none, none, none, none, none, none, none, none, none, none, none, none, none, none] ∧ Core C h q b x ns H ∧
  H D = some (.lst ys) ∧ EntL h ns.length H ys es ∧ es.length ≤ 6 ∧ H T = some (.lst (es.map fun e => e.2.1)) ∧ H W = some (.lst ((wrs 0 (es.map fun e => e.1)).map V.int)) ∧ Is H o so ∧ (so.isL || so.isT) = false ∧ items so = []
section
variable {P : Program} {w : World} {K : PySem.W.Frag} {mg : Str → Option Value} {base : Heap} {f : Addr} {cdv : Value} {A : Around} {outer : List Env} {s : Shared} {H0 : Hp} {E0 : XK}
theorem seg2 {C fP fD fE : Addr} {fdP fdD fdE : FuncData} (hr : Room 10 (XL P w K mg base f cdv A outer s H0 E0).A) (nr : mg "range" = none) (ne : mg "enumerate" = none)
    (GP : Cal P w K mg base CX0 3 "_law_pick" fP fdP ["_law_hand_here", "_law_things"] spPick) (GD : Cal P w K mg base CX0 2 "_law_draw" fD fdD ["_law_hand_here", "_law_many"] spDraw)
    (GE : Cal P w K mg base CX0 4 "_law_entry" fE fdE ["_law_hand_here", "_law_many"] spEnt) : SegT (XL P w K mg base f cdv A outer s H0 E0) (cut 4 4) (M4 C) (M8 C) := by
  intro rest u hu
  refine ⟨_, (pss_cons 
  (ps_setLc (i := 5) (own := [("_law_k", 23)]) (g := gName 23) rfl sc_law.nd rfl rfl (sw_true rfl rfl rfl (by decide +kernel)) (pi_range1 (by rfl) nr (pa_cons (pcal GD hr pass0 (pa_cons (pv 1) (pa_cons pe_int pa_nil))) pa_nil)) (blkOk_by (own := [("_law_k", 23)]) (N := Nlaw) (sc := defScope s_law) (by decide +kernel)) (fun _ _ _ _ _ => pg_name (i := 23) sc_law.nd rfl (Or.inl rfl)) (fun _ _ _ _ _ => pts_nil) (fun _ _ _ _ _ => (pcal GE hr pass0 (pa_cons (pv 1) (pa_cons (pv 2) pa_nil))))) (pss_cons 
  (ps_setLc (i := 6) (own := [("_law_entry_here", 24)]) (g := gName 24) rfl sc_law.nd rfl rfl (sw_true rfl rfl rfl (by decide +kernel)) (pi_list (pv 5)) (blkOk_by (own := [("_law_entry_here", 24)]) (N := Nlaw) (sc := defScope s_law) (by decide +kernel)) (fun _ _ _ _ _ => pg_name (i := 24) sc_law.nd rfl (Or.inl rfl)) (fun _ _ _ _ _ => pts_nil) (fun _ _ _ _ _ => (pe_ix (r := rIxT K) ix_tup (pv 24) pe_int (fun _ _ => rfl)))) (pss_cons 
  (ps_setLc (i := 7) (own := [("_law_k", 23), ("_law_entry_here", 24)]) (g := gTup K 2 (gCons (gName 23) (gCons (gName 24) gNil))) rfl sc_law.nd rfl rfl (sw_true rfl rfl rfl (by decide +kernel)) (pi_enum (by rfl) ne (pa_cons (pv 5) pa_nil)) (blkOk_by (own := [("_law_k", 23), ("_law_entry_here", 24)]) (N := Nlaw) (sc := defScope s_law) (by decide +kernel)) (fun _ _ _ _ _ => pg_tup (by rfl) (pgs_cons (pg_name (i := 23) sc_law.nd rfl (Or.inl rfl)) (pgs_cons (pg_name (i := 24) sc_law.nd rfl (Or.inl rfl)) pgs_nil))) (fun _ _ _ _ _ => pts_one (pt_not (pt_val (pe_ix (r := rIxT K) ix_tup (pv 24) pe_int (fun _ _ => rfl))))) (fun _ _ _ _ _ => (pv 23))) (pss_cons 
  (ps_set (i := 8) sc_law.nd rfl (Or.inl rfl) (pcal GP hr pass0 (pa_cons (pv 1) (pa_cons (pe_lst (pa_cons pe_non (pa_cons pe_str (pa_cons pe_int (pa_cons pe_dnewK (pa_cons pe_bl pa_nil)))))) pa_nil)))) hu)))), fun D σ H m k => ?_⟩
  obtain ⟨a, h, q, b, x, ns, rfl, c⟩ := m
  have hl4 := c.gb.hi
  have n2 := c.n2
  -- entries
  refine ⟨_, rfl, h, q, 7, rfl, by decide, by decide, c.hh, fun v H1 v0 v7 b1 h1 => ?_⟩
  have c1 := c.but b1 h1
  obtain ⟨n, rfl⟩ : ∃ n : Nat, v = (n : Nat) := ⟨v.toNat, by omega⟩
  refine ⟨n, rfl, by omega, by omega, fun D hD => ?_⟩
  obtain ⟨nD, nDq⟩ := h1.same_h' hD
  refine lc_range (lo := 0) (n := n) (fun i H' => GroE h q ns.length H1 H' D i) ⟨But.new hD, h1.new hD, hD, nD, nDq, [], [], upd_same, rfl, .nil, fun e he => by cases he⟩ ?_ ?_
  · rintro i H2 hi ⟨B, hh, f, nh, nq, ys, es, eD, ly, pe, ne⟩
    refine ⟨rfl, yesT ?_⟩
    refine ⟨_, rfl, _, rfl, h, q, ns.length, rfl, hh, by omega, hl4, fun H3 y g v s B3 h3 ey fr => ?_⟩
    have eD3 := B3 _ _ nh eD
    have nv : v ≠ .ref D := fun e => by
      have := fr D e
      rw [eD] at this
      cases this
    refine ⟨ys, eD3, small1000 (by omega), (B.trans B3).put2 f, h3.put nh.symm nq.symm, f, nh, nq, ys ++ [y], es ++ [(g, v, s)], upd_same, by simp [ly], ?_, ?_⟩
    · refine paired_app (paired_put eD3 (pe.but B3) ne) (ey.put eD3 nv)
    · intro e he
      rcases List.mem_append.mp he with he | he
      · exact ne e he
      · rw [List.mem_singleton.mp he]
        exact nv
  rintro H2 ⟨B2, h2, fD, nh, nq, ys, es, eD, ly, pe, ne⟩
  have c2 := c1.but B2 h2
  have le : es.length = ys.length := (Paired.length pe).symm
  -- things
  refine ⟨_, rfl, D, rfl, ⟨_, SqL.of eD⟩, fun T hT => ?_⟩
  have S2 : Same H2 (upd H2 T (.lst [])) := new_same hT
  refine lc_list (K := K) (a := D) (xs := ys) (fun i H' => Same H2 H' ∧ H2 T = none ∧ H' T = some (.lst ((es.take i).map fun e => e.2.1))) ⟨S2, hT, upd_same⟩ (fun i H' _ p => SqL.of (p.1 _ _ eD)) ?_ ?_
  · rintro i y H3 hy ⟨S3, _, eT⟩
    obtain ⟨e, he, ey⟩ := paired_at pe hy
    obtain ⟨z, rfl, z2, z3, _⟩ := ey
    refine ⟨rfl, yesT ?_⟩
    refine ⟨_, rfl, z, _, _, _, rfl, rfl, SqT.of (S3 _ _ z3), at_of (j := 1) (v := e.2.1) rfl rfl, _, eT, small1000 (by rw [List.length_map, List.length_take]; omega), fun b o eb => ?_, hT, ?_⟩
    · rw [upd_ne (ne_of_none eb hT)]
      exact S3 _ _ eb
    · rw [upd_same, List.take_add_one, he, List.map_append]
      rfl
  rintro H3 ⟨S3, _, eT⟩
  rw [← le, List.take_length] at eT
  have c3 := c2.keep S3
  have pe3 : EntL h ns.length H3 ys es := pe.but (But.same S3)
  have eD3 := S3 _ _ eD
  have nT := hand_free h2 hT
  clear S2 S3 pe eD
  -- wrong
  refine ⟨_, rfl, D, _, rfl, SqL.of eD3, fun W hW => ?_⟩
  have lg : (es.map fun e => e.1).length = ys.length := by rw [List.length_map]; exact le
  refine lc_it (walk_enum (K := K) (a := D) (xs := ys)) (fun i H' => Same H3 H' ∧ H3 W = none ∧ H' W = some (.lst ((wrs 0 ((es.map fun e => e.1).take i)).map V.int))) ⟨new_same hW, hW, upd_same⟩ (fun i H' _ p => SqL.of (p.1 _ _ eD3)) ?_ ?_
  · rintro i y H4 H5 hi ⟨S4, _, eW⟩ ⟨t, u, v, rfl, nt, rfl, eu, ev⟩
    obtain rfl : V.int (i : Nat) = u := Option.some.inj eu
    obtain ⟨e, he, ey⟩ := paired_at pe3 ev
    obtain ⟨z, rfl, z2, z3, _⟩ := ey
    have z4 := S4 _ _ z3
    have eg : (es.map fun e => e.1)[i]? = some e.1 := by rw [List.getElem?_map, he]; rfl
    have S5 : Same H4 (upd H4 t (.tup [.int (i : Nat), .ref z])) := new_same nt
    refine ⟨t, _, rfl, SqT.of upd_same, rfl, _, _, rfl, _, _, rfl, rfl, rfl, ?_⟩
    refine ⟨_, rfl, z, _, _, _, rfl, rfl, SqT.of (S5 _ _ z4), at_of (j := 0) (v := .bl e.1) rfl rfl, _, rfl, ?_⟩
    have wt := wrs_take eg
    have wl := wrs_len (gs := (es.map fun e => e.1).take i) (k := 0)
    rw [List.length_take] at wl
    cases e1 : e.1 with
    | true =>
      rw [e1, if_pos rfl, List.append_nil] at wt
      refine iteF ⟨S4.trans S5, hW, ?_⟩
      rw [wt]
      exact S5 _ _ eW
    | false =>
      rw [e1, if_neg (by simp)] at wt
      refine iteT ⟨_, rfl, _, S5 _ _ eW, small1000 (by rw [List.length_map]; omega), fun b o eb => ?_, hW, ?_⟩
      · rw [upd_ne (ne_of_none eb hW)]
        exact S5 _ _ (S4 _ _ eb)
      · rw [upd_same, wt, List.map_append]
        rfl
  rintro H4 ⟨S4, _, eW⟩
  rw [← lg, List.take_length] at eW
  have c4 := c3.keep S4
  have pe4 : EntL h ns.length H4 ys es := pe3.but (But.same S4)
  have eD4 := S4 _ _ eD3
  have eT4 := S4 _ _ eT
  have nW := hand_free c3.hh hW
  clear S4 pe3 eD3 eT
  -- odd
  refine ⟨_, rfl, fun d hd => ⟨(by show 5 ≤ sizeLine; decide), fun l hl => ?_⟩⟩
  have nd := hand_free c4.hh hd
  have c5 := c4.new (o := .dK []) hd
  have S5 : Same H4 (upd H4 d (.dK [])) := new_same hd
  have ed : (upd H4 d (.dK [])) d = some (.dK []) := upd_same
  generalize upd H4 d (.dK []) = H5 at hl c5 S5 ed
  have nl := hand_free c5.hh hl
  have S6 := new_same (o := .lst [.non, .str (Str.ofString "000"), .int 5, .ref d, .bl true]) hl
  refine ⟨h, q, l, _, rfl, (c5.new hl).hh, nl, upd_same, (by show 0 < 5; decide), (by show 5 ≤ 1000; decide), fun H6 o mo b6 h6 => ?_⟩
  have B6 : But h H4 H6 := ((But.same S5).trans (But.same S6)).trans b6
  have ed6 := b6 _ _ nd (S6 _ _ ed)
  refine k _ _ ⟨a, h, q, b, x, D, T, W, ns, o, ys, es, (match o with | .ref _ => .dk | v => .sc v), rfl, c4.but B6 h6, B6 _ _ nh eD4, pe4.but B6, by omega, B6 _ _ nT eT4, B6 _ _ nW eW, ?_⟩
  simp only [List.mem_cons, List.not_mem_nil, or_false] at mo
  rcases mo with rfl | rfl | rfl | rfl | rfl
  · exact ⟨⟨rfl, rfl⟩, rfl, rfl⟩
  · exact ⟨⟨rfl, rfl⟩, rfl, rfl⟩
  · exact ⟨⟨rfl, rfl⟩, rfl, rfl⟩
  · exact ⟨⟨d, [], rfl, ed6⟩, rfl, rfl⟩
  · exact ⟨⟨rfl, rfl⟩, rfl, rfl⟩
end
end J

set_option Elab.async false
set_option linter.all false
set_option maxRecDepth 100000
set_option maxHeartbeats 8000000
namespace J
open PySem PySem.Spec PyProof.Rows L2
theorem shaped_iw {j : Int} {u : Str} (hu : PyData.canLay0 (.str u) = true) (hj : PyData.canLay0 (.int j) = true) : SeqAt.shaped (.tuple [.int j, .str u]) = true := by
  show (PyData.canLay0 (.tuple [.int j, .str u]) && decide (PyData.depth (.tuple [.int j, .str u]) ≤ 64)) = true
  simp only [PyData.canLay0, PyData.canLayAll0, PyData.depth, PyData.depthAll] at hu hj ⊢
  simp [hu, hj]
theorem eqv_iw {j : Int} {u : Str} : PyData.eqv (.tuple [.int j, .str u]) (.tuple [.int j, .str u]) = true := by
  simp [PyData.eqv, PyData.eqvAll]
theorem lay_barred : PyData.canLay0 (.str (Str.ofString "barred")) = true := by decide +kernel
theorem lay_threes : PyData.canLay0 (.str (Str.ofString "threes")) = true := by decide +kernel
theorem lay_ties : PyData.canLay0 (.str (Str.ofString "ties")) = true := by decide +kernel
theorem lay_three : PyData.canLay0 (.str (Str.ofString "three")) = true := by decide +kernel
theorem lay_int {j : Int} : PyData.canLay0 (.int j) = true := by
  simp [PyData.canLay0]
theorem entL_sh {h : Addr} {m : Nat} {H : Hp} : ∀ {ys : List V} {es : List En}, EntL h m H ys es → ShAll H (es.map fun e => e.2.1) (es.map fun e => e.2.2)
  | _, _, .nil => .nil
  | _, _, .cons r t => .cons ⟨by obtain ⟨z, _, _, _, a, _⟩ := r; exact a, by obtain ⟨z, _, _, _, _, _, a, _⟩ := r; exact sc_known a⟩ (entL_sh t)
theorem entL_g {h : Addr} {H : Hp} {ns : List Int} : ∀ {ys : List V} {es : List En}, EntL h ns.length H ys es → ∀ e ∈ es, threeB ns e.2.2 = e.1
  | _, _, .nil => fun e he => by cases he
  | _, _, .cons r t => fun e he => by
    rcases List.mem_cons.mp he with rfl | he
    · obtain ⟨z, _, _, _, _, _, _, a⟩ := r
      exact a ns rfl
    · exact entL_g t e he
/-- the first wrong one, as the book tells it -/
theorem ent_arg {C h x T : Addr} {H : Hp} {ns : List Int} {ys : List V} {es : List En} {wd : Str} {a : Int} {r : List Int} (hT : TiesAt C H x ns) (gb : GoodB ns) (pe : EntL h ns.length H ys es) (eT : H T = some (.lst (es.map fun e => e.2.1))) (hw : wrs 0 (es.map fun e => e.1) = a :: r) :
    ArgR C wd (.ref x) (.ref T) H a "three" := by
  obtain ⟨j, e1, e2, e3⟩ := wrs_head hw
  rw [Nat.zero_add] at e1
  rw [List.getElem?_map] at e2
  obtain ⟨e, he, e2⟩ : ∃ e, es[j]? = some e ∧ e.1 = false := by
    cases q : es[j]? with
    | none => rw [q] at e2; cases e2
    | some e => rw [q] at e2; exact ⟨e, rfl, Option.some.inj e2⟩
  refine .inr ⟨x, ns, .lst (es.map fun e : En => e.2.1), es.map fun e : En => e.2.2, rfl, hT, gb, ⟨T, rfl, eT⟩, entL_sh pe, .inr ⟨rfl, j, e.2.2, e1, rfl, by rw [List.getElem?_map, he]; rfl, (entL_g pe e (List.mem_of_getElem? he)).trans e2, fun i s' hi es' => ?_⟩⟩
  rw [List.getElem?_map] at es'
  cases q : es[i]? with
  | none => rw [q] at es'; cases es'
  | some e' =>
    rw [q] at es'
    rw [← Option.some.inj es', entL_g pe e' (List.mem_of_getElem? q)]
    exact e3 i e'.1 hi (by rw [List.getElem?_map, q]; rfl)
def M9 (C : Addr) (σ : L2.St) (H : Hp) : Prop := ∃ (a h q b x D T W : Addr) (ns : List Int) (o : V) (v9 v10 : Option V) (ys : List V) (es : List En), σ = [some (.ref a), some (.ref h), some (.int (ns.length : Nat)), some (.ref b), some (.ref x), some (.ref D), some (.ref T), some (.ref W), some o, v9, v10, none, none, none, none, none, none, none, none, none, none, none, none, none, none] ∧ Core C h q b x ns H ∧
  H D = some (.lst ys) ∧ EntL h ns.length H ys es ∧ es.length ≤ 6
section
variable {P : Program} {w : World} {K : PySem.W.Frag} {mg : Str → Option Value} {base : Heap} {f : Addr} {cdv : Value} {A : Around} {outer : List Env} {s : Shared} {H0 : Hp} {E0 : XK}
theorem seg3 {C fM fL fR : Addr} {fdR : FuncData} (hr : Room 10 (XL P w K mg base f cdv A outer s H0 E0).A) (mM : mg "_law_made" = some (.ref fM)) (kM : PySem.W.keepIn K (.ref fM) = true) (mL : mg "_law_letting" = some (.ref fL)) (kL : PySem.W.keepIn K (.ref fL) = true)
    (GR : Cal P w K mg base CX0 10 "_law_refusal" fR fdR ["_law_call", "_law_ties", "_law_things"] (spRefu C fM fL)) : SegT (XL P w K mg base f cdv A outer s H0 E0) (cut 8 1) (M8 C) (M9 C) := by
  intro rest u hu
  refine ⟨_, (pss_cons 
  (ps_for PassesOwn.never rfl (pi_list (pe_lst (pa_cons (pe_tup (pa_cons (pe_glob (v := .ref fM) rfl mM rfl) (pa_cons pe_str pa_nil))) (pa_cons (pe_tup (pa_cons (pe_glob (v := .ref fL) rfl mL rfl) (pa_cons pe_str pa_nil))) pa_nil)))) (pg_tup (by rfl) (pgs_cons (pg_name (i := 9) sc_law.nd rfl (Or.inl rfl)) (pgs_cons (pg_name (i := 10) sc_law.nd rfl (Or.inl rfl)) pgs_nil))) (pss_cons 
    (ps_if (PW.pt (pw_or (pt_cmpR (op_neD hr.units) (pcal GR hr pass0 (pa_cons (pv 9) (pa_cons (pv 4) (pa_cons (pv 8) pa_nil)))) (pe_tup (pa_cons pe_int (pa_cons (pv 10) pa_nil))) (nomark _)) (pw_or1 (pt_cmpR (op_neD hr.units) (pcal GR hr pass0 (pa_cons (pv 9) (pa_cons (pv 3) (pa_cons (pv 8) pa_nil)))) (pe_tup (pa_cons pe_int (pa_cons pe_str pa_nil))) (nomark _))))) (pss_one 
      (ps_ret pe_bl)) pss_nil) (pss_one 
    (ps_if (PW.pt (pw_and (pt_cmpR (op_neD hr.units) (pv 7) (pe_lst pa_nil) (nomark _)) (pw_and1 (pt_cmpR (op_neD hr.units) (pcal GR hr pass0 (pa_cons (pv 9) (pa_cons (pv 4) (pa_cons (pv 6) pa_nil)))) (pe_tup (pa_cons (pe_ix ix_list (pv 7) pe_int (fun _ _ => rfl)) (pa_cons pe_str pa_nil))) (nomark _))))) (pss_one 
      (ps_ret pe_bl)) pss_nil)))) hu), fun D0 σ H m k => ?_⟩
  obtain ⟨a, h, q, b, x, D, T, W, ns, o, ys, es, so, rfl, c, eD, pe, l6, eT, eW, io, sq, its⟩ := m
  refine ⟨(by show 2 ≤ sizeLine; decide), fun p1 hp1 => ⟨(by show 2 ≤ sizeLine; decide), fun p2 hp2 => ⟨(by show 2 ≤ sizeLine; decide), fun l hl => ?_⟩⟩⟩
  have c0 := c
  have S1 : Same H (upd H p1 (.tup [.ref fM, .str (Str.ofString "barred")])) := new_same hp1
  have e1 : (upd H p1 (.tup [.ref fM, .str (Str.ofString "barred")])) p1 = some (.tup [.ref fM, .str (Str.ofString "barred")]) := upd_same
  generalize upd H p1 (.tup [.ref fM, .str (Str.ofString "barred")]) = H1 at hp2 hl S1 e1 ⊢
  have S2 : Same H1 (upd H1 p2 (.tup [.ref fL, .str (Str.ofString "threes")])) := new_same hp2
  have e2 : (upd H1 p2 (.tup [.ref fL, .str (Str.ofString "threes")])) p2 = some (.tup [.ref fL, .str (Str.ofString "threes")]) := upd_same
  generalize upd H1 p2 (.tup [.ref fL, .str (Str.ofString "threes")]) = H2 at hl S2 e2 ⊢
  have S3 : Same H2 (upd H2 l (.lst [.ref p1, .ref p2])) := new_same hl
  have el : (upd H2 l (.lst [.ref p1, .ref p2])) l = some (.lst [.ref p1, .ref p2]) := upd_same
  generalize upd H2 l (.lst [.ref p1, .ref p2]) = H3 at S3 el ⊢
  have e1 := S3 _ _ (S2 _ _ e1)
  have e2 := S3 _ _ e2
  have S := (S1.trans S2).trans S3
  replace c := c.keep S
  replace eD := S _ _ eD
  replace pe : EntL h ns.length H3 ys es := pe.but (But.same S)
  replace eT := S _ _ eT
  replace eW := S _ _ eW
  replace io := io.keep S
  clear S1 S2 S3 S hp1 hp2 hl
  refine ⟨l, rfl, ⟨_, SqL.of el⟩, for_list (K := K) (a := l) (xs := [.ref p1, .ref p2]) (fun i σ H' => ∃ v9 v10 : Option V, σ = [some (.ref a), some (.ref h), some (.int (ns.length : Nat)), some (.ref b), some (.ref x), some (.ref D), some (.ref T), some (.ref W), some o, v9, v10, none, none, none, none, none, none, none, none, none, none, none, none, none, none] ∧ Same H3 H')
    ⟨none, none, rfl, Same.refl _⟩ (fun i σ H' _ ⟨_, _, _, S⟩ => SqL.of (S _ _ el)) ?_ ?_⟩
  · rintro i y σ H4 hy ⟨v9, v10, rfl, S4⟩
    obtain ⟨p, g, wd, rfl, ep, Hc, lw⟩ : ∃ (p g : Addr) (wd : Str), y = .ref p ∧ H3 p = some (.tup [.ref g, .str wd]) ∧ (∀ t v H j u, ArgR C wd t v H j u → (g = fM ∧ ArgR C "barred" t v H j u) ∨ (g = fL ∧ ArgR C "threes" t v H j u)) ∧ PyData.canLay0 (.str wd) = true := by
      rcases i with _ | _ | i
      · exact ⟨p1, fM, Str.ofString "barred", (Option.some.inj hy).symm, e1, fun _ _ _ _ _ z => .inl ⟨rfl, z⟩, lay_barred⟩
      · exact ⟨p2, fL, Str.ofString "threes", (Option.some.inj hy).symm, e2, fun _ _ _ _ _ z => .inr ⟨rfl, z⟩, lay_threes⟩
      · cases hy
    refine ⟨p, _, rfl, SqT.of (S4 _ _ ep), rfl, _, _, rfl, _, _, rfl, rfl, ?_⟩
    have c4 := c.keep S4
    refine ⟨_, rfl, _, rfl, _, rfl, g, .ref x, o, 0, wd, rfl, Hc _ _ _ _ _ (.inr ⟨x, ns, so, [], rfl, c4.T, c4.gb, io.keep S4, by rw [its]; exact .nil, .inl ⟨sq, rfl, rfl⟩⟩), fun H5 z5 S5 ez5 => ?_⟩
    refine ⟨_, rfl, (by show 2 ≤ sizeLine; decide), fun w5 hw5 => ?_⟩
    have S56 := new_same (o := .tup [.int 0, .str wd]) hw5
    refine ⟨.tuple [.int 0, .str wd], .tuple [.int 0, .str wd], .tup (SqT.of (S56 _ _ ez5)) (.cons (.int 0) (.cons (.str wd) .nil)), .tup (SqT.of upd_same) (.cons (.int 0) (.cons (.str wd) .nil)), shaped_iw lw lay_int, shaped_iw lw lay_int, _, rfl, if_fa (by rw [eqv_iw]; rfl) ?_⟩
    have S46 := (S4.trans S5).trans S56
    have c6 := c.keep S46
    generalize upd H5 w5 (.tup [.int 0, .str wd]) = H6 at S56 S46 c6 ⊢
    refine ⟨_, rfl, _, rfl, _, rfl, g, .ref b, o, 0, "ties", rfl, Hc _ _ _ _ _ (.inl ⟨⟨b, _, rfl, c6.eb⟩, rfl, rfl⟩), fun H7 z7 S7 ez7 => ?_⟩
    refine ⟨(by show 2 ≤ sizeLine; decide), fun w7 hw7 => ?_⟩
    have S78 := new_same (o := .tup [.int 0, .str (Str.ofString "ties")]) hw7
    refine ⟨.tuple [.int 0, .str (Str.ofString "ties")], .tuple [.int 0, .str (Str.ofString "ties")], .tup (SqT.of (S78 _ _ ez7)) (.cons (.int 0) (.cons (.str _) .nil)), .tup (SqT.of upd_same) (.cons (.int 0) (.cons (.str _) .nil)), shaped_iw lay_ties lay_int, shaped_iw lay_ties lay_int, _, rfl, iteF ?_⟩
    have S68 := (S46.trans S7).trans S78
    have c8 := c.keep S68
    generalize upd H7 w7 (.tup [.int 0, .str (Str.ofString "ties")]) = H8 at S78 S68 c8 ⊢
    have eW8 := S68 _ _ eW
    have eT8 := S68 _ _ eT
    have pe8 : EntL h ns.length H8 ys es := pe.but (But.same S68)
    refine ⟨_, rfl, Nat.zero_le _, fun n9 hn9 => ?_⟩
    have S89 : Same H8 (upd H8 n9 (.lst [])) := new_same hn9
    refine ⟨.list ((wrs 0 (es.map fun e => e.1)).map PyData.int), .list (([] : List Int).map PyData.int), .lst (SqL.of (S89 _ _ eW8)) (dp_ints _), .lst (SqL.of upd_same) (dp_ints []), shaped_li _, shaped_li _, _, rfl, ?_⟩
    rw [eqv_li]
    cases hw : wrs 0 (es.map fun e => e.1) with
    | nil => exact if_fa (by simp) (iteF ⟨_, _, rfl, S68.trans S89⟩)
    | cons j r =>
      refine if_tr (by simp) ?_
      rw [hw] at eW8
      have eW9 := S89 _ _ eW8
      have c9 := c8.keep S89
      refine ⟨_, rfl, _, rfl, _, rfl, g, .ref x, .ref T, j, "three", rfl, Hc _ _ _ _ _ (ent_arg c9.T c9.gb (pe8.but (But.same S89)) (S89 _ _ eT8) hw), fun H10 z10 S10 ez10 => ?_⟩
      refine ⟨_, rfl, W, _, _, _, rfl, rfl, SqL.of (S10 _ _ eW9), at_of (j := 0) (v := .int j) rfl rfl, (by show 2 ≤ sizeLine; decide), fun w11 hw11 => ?_⟩
      have S11 := new_same (o := .tup [.int j, .str (Str.ofString "three")]) hw11
      exact ⟨.tuple [.int j, .str (Str.ofString "three")], .tuple [.int j, .str (Str.ofString "three")], .tup (SqT.of (S11 _ _ ez10)) (.cons (.int j) (.cons (.str _) .nil)), .tup (SqT.of upd_same) (.cons (.int j) (.cons (.str _) .nil)), shaped_iw lay_three lay_int, shaped_iw lay_three lay_int, _, rfl, if_fa (by rw [eqv_iw]; rfl) ⟨_, _, rfl, ((S68.trans S89).trans S10).trans S11⟩⟩
  · rintro σ H4 ⟨v9, v10, rfl, S4⟩
    exact k _ _ ⟨a, h, q, b, x, D, T, W, ns, o, v9, v10, ys, es, rfl, c.keep S4, S4 _ _ eD, pe.but (But.same S4), l6⟩
end
end J

set_option Elab.async false
set_option linter.all false
set_option maxRecDepth 100000
set_option maxHeartbeats 8000000
namespace J
open PySem PySem.Spec PyProof.Rows L2
/-- right threes -/
def RL (h : Addr) (m : Nat) (H : Hp) (xs : List V) (ss : List Sh) : Prop := Paired (fun v s => Is H v s ∧ v ≠ .ref h ∧ (∀ u ∈ items s, isSc u = true) ∧ ∀ ns : List Int, ns.length = m → threeB ns s = true) xs ss
theorem RL.but {h : Addr} {m : Nat} {H H' : Hp} {xs : List V} {ss : List Sh} (r : RL h m H xs ss) (B : But h H H') : RL h m H' xs ss := Paired.mapP r fun _ _ ⟨a, b, c⟩ => ⟨a.but b B, b, c⟩
theorem RL.sh {h : Addr} {m : Nat} {H : Hp} : ∀ {xs : List V} {ss : List Sh}, RL h m H xs ss → ShAll H xs ss
  | _, _, .nil => .nil
  | _, _, .cons r t => .cons ⟨r.1, sc_known r.2.2.1⟩ (RL.sh t)
theorem RL.good {h : Addr} {H : Hp} {ns : List Int} : ∀ {xs : List V} {ss : List Sh}, RL h ns.length H xs ss → ∀ s ∈ ss, threeB ns s = true
  | _, _, .nil => fun s hs => by cases hs
  | _, _, .cons r t => fun s hs => by
    rcases List.mem_cons.mp hs with rfl | hs
    · exact r.2.2.2 ns rfl
    · exact RL.good t s hs
theorem entL_right {h : Addr} {m : Nat} {H : Hp} : ∀ {ys : List V} {es : List En}, EntL h m H ys es → RL h m H ((es.filter fun e => e.1).map fun e => e.2.1) ((es.filter fun e => e.1).map fun e => e.2.2)
  | _, _, .nil => .nil
  | _, e :: es, .cons r t => by
    have ih := entL_right t
    rw [List.filter_cons]
    cases q : e.1 with
    | false => exact ih
    | true =>
      obtain ⟨z, _, _, _, a, b, c, d⟩ := r
      exact .cons ⟨a, b, c, fun ns hn => (d ns hn).trans q⟩ ih
def M11 (C : Addr) (σ : L2.St) (H : Hp) : Prop := ∃ (a h q b x R wd : Addr) (ns : List Int) (v5 v6 v7 v8 v9 v10 : Option V) (xs : List V) (ss : List Sh), σ = [some (.ref a), some (.ref h), some (.int (ns.length : Nat)), some (.ref b), some (.ref x), v5, v6, v7, v8, v9, v10, some (.ref R), some (.ref wd), none, none, none, none, none, none, none, none, none, none, none, none] ∧ Core C h q b x ns H ∧
  H R = some (.lst xs) ∧ R ≠ h ∧ RL h ns.length H xs ss ∧ xs.length ≤ 6 ∧ WAt H wd ns (brd ns (trs ss))
section
variable {P : Program} {w : World} {K : PySem.W.Frag} {mg : Str → Option Value} {base : Heap} {f : Addr} {cdv : Value} {A : Around} {outer : List Env} {s : Shared} {H0 : Hp} {E0 : XK}
theorem seg4 {C fL : Addr} {fdL : FuncData} (hr : Room 10 (XL P w K mg base f cdv A outer s H0 E0).A) (GL : Cal P w K mg base CX0 2 "_law_let" fL fdL ["_law_backs_here", "_law_classes_here"] spLL) : SegT (XL P w K mg base f cdv A outer s H0 E0) (cut 9 2) (M9 C) (M11 C) := by
  intro rest u hu
  refine ⟨_, (pss_cons 
  (ps_setLc (i := 11) (own := [("_law_entry_here", 24)]) (g := gName 24) rfl sc_law.nd rfl rfl (sw_true rfl rfl rfl (by decide +kernel)) (pi_list (pv 5)) (blkOk_by (own := [("_law_entry_here", 24)]) (N := Nlaw) (sc := defScope s_law) (by decide +kernel)) (fun _ _ _ _ _ => pg_name (i := 24) sc_law.nd rfl (Or.inl rfl)) (fun _ _ _ _ _ => pts_one (pt_val (pe_ix (r := rIxT K) ix_tup (pv 24) pe_int (fun _ _ => rfl)))) (fun _ _ _ _ _ => (pe_ix (r := rIxT K) ix_tup (pv 24) pe_int (fun _ _ => rfl)))) (pss_cons 
  (ps_set (i := 12) sc_law.nd rfl (Or.inr rfl) (pe_tup (pa_cons (pv 3) (pa_cons (pcal GL hr pass0 (pa_cons (pv 3) (pa_cons (pv 11) pa_nil))) pa_nil)))) hu)), fun D0 σ H m k => ?_⟩
  obtain ⟨a, h, q, b, x, D, T, W, ns, o, v9, v10, ys, es, rfl, c, eD, pe, l6⟩ := m
  refine ⟨_, rfl, D, rfl, ⟨_, SqL.of eD⟩, fun R hR => ?_⟩
  refine lc_list (K := K) (a := D) (xs := ys) (fun i H' => Same H H' ∧ H R = none ∧ H' R = some (.lst (((es.take i).filter fun e => e.1).map fun e => e.2.1))) ⟨new_same hR, hR, upd_same⟩ (fun i H' _ p => SqL.of (p.1 _ _ eD)) ?_ ?_
  · rintro i y H3 hy ⟨S3, _, eR⟩
    obtain ⟨e, he, ey⟩ := paired_at pe hy
    obtain ⟨z, rfl, z2, z3, _⟩ := ey
    have tk : (es.take (i + 1)).filter (fun e => e.1) = (es.take i).filter (fun e => e.1) ++ if e.1 = true then [e] else [] := take_filter he
    have fl : ((es.take i).filter fun e => e.1).length ≤ (es.take i).length := List.length_filter_le _ _
    rw [List.length_take] at fl
    refine ⟨rfl, _, rfl, z, _, _, _, rfl, rfl, SqT.of (S3 _ _ z3), at_of (j := 0) (v := .bl e.1) rfl rfl, _, rfl, ?_⟩
    cases q : e.1 with
    | false =>
      rw [q, if_neg (by simp), List.append_nil] at tk
      refine if_fa rfl ⟨S3, hR, ?_⟩
      rw [tk]
      exact eR
    | true =>
      rw [q, if_pos rfl] at tk
      refine if_tr rfl ⟨_, rfl, z, _, _, _, rfl, rfl, SqT.of (S3 _ _ z3), at_of (j := 1) (v := e.2.1) rfl rfl, _, eR, small1000 (by rw [List.length_map]; omega), fun b o eb => ?_, hR, ?_⟩
      · rw [upd_ne (ne_of_none eb hR)]
        exact S3 _ _ eb
      · rw [upd_same, tk, List.map_append]
        rfl
  rintro H3 ⟨S3, _, eR⟩
  rw [Paired.length pe, List.take_length] at eR
  have nR := hand_free c.hh hR
  have c3 := c.keep S3
  have rl : RL h ns.length H3 ((es.filter fun e => e.1).map fun e => e.2.1) ((es.filter fun e => e.1).map fun e => e.2.2) := entL_right (pe.but (But.same S3))
  have lx : ((es.filter fun e => e.1).map fun e => e.2.1).length ≤ 6 := by
    rw [List.length_map]
    exact Nat.le_trans (List.length_filter_le _ _) l6
  generalize (es.filter fun e => e.1).map (fun e => e.2.1) = xs at eR rl lx
  generalize (es.filter fun e => e.1).map (fun e => e.2.2) = ss at rl
  obtain ⟨th, tA⟩ := thr_of rl.sh rl.good
  refine ⟨_, rfl, _, rfl, _, rfl, b, R, ns, xs, trs ss, rfl, c3.eb, c3.gb, eR, th, tA, fun H4 z po ro W3 => ⟨(by show 2 ≤ sizeLine; decide), fun wd hwd => ?_⟩⟩
  have S4 : Same H3 H4 := W3.S
  have S5 := new_same (o := .tup [.ref b, .ref z]) hwd
  exact k _ _ ⟨a, h, q, b, x, R, wd, ns, _, _, _, _, _, _, xs, ss, rfl, (c3.keep S4).keep S5, S5 _ _ (S4 _ _ eR), nR, rl.but (But.same (S4.trans S5)), lx, (W3.keep S5).world (S5 _ _ (S4 _ _ c3.eb)) upd_same⟩
end
end J

set_option Elab.async false
set_option linter.all false
set_option maxRecDepth 100000
set_option maxHeartbeats 8000000
namespace J
open PySem PySem.Spec PyProof.Rows L2
theorem NL.but {h : Addr} {S0 H H' : Hp} (N : NL S0 H H') (B : But h S0 H) : But h S0 H' := fun a o n e => N.old (B a o n e) (some_ne e)
/-- what is handed in: a copy of s, or s itself if it is a tuple -/
def HdAt (h D : Addr) (S0 H : Hp) (z : V) (s : Sh) : Prop := ∃ (a : Addr) (s' : Sh), z = .ref a ∧ Is H z s' ∧ items s' = items s ∧ (s'.isL || s'.isT) = true ∧ a ≠ h ∧ a ≠ D ∧ (s'.isL = true → S0 a = none)
theorem HdAt.but {h D : Addr} {S0 H H' : Hp} {z : V} {s : Sh} (e : HdAt h D S0 H z s) (B : But h H H') : HdAt h D S0 H' z s := by
  obtain ⟨a, s', rfl, i, r1, r2, n, r⟩ := e
  exact ⟨a, s', rfl, i.but (fun z => n (by injection z)) B, r1, r2, n, r⟩
theorem HdAt.put {h D : Addr} {S0 H : Hp} {z : V} {s : Sh} {o : HO} (e : HdAt h D S0 H z s) : HdAt h D S0 (upd H D o) z s := by
  obtain ⟨a, s', rfl, i, r1, r2, n, m, r⟩ := e
  exact ⟨a, s', rfl, i.but (h := D) (fun z => m (by injection z)) But.put, r1, r2, n, m, r⟩
theorem three_sh {ns : List Int} {s s' : Sh} (e : items s' = items s) (h : threeB ns s = true) (q : (s'.isL || s'.isT) = true) : threeB ns s' = true := by
  obtain ⟨p, q', r, e1, ip, iq, ir, _⟩ := thr_sh h
  exact three_yes (e.trans e1) q ip iq ir
/-- the shapes of what is handed in -/
theorem hd_sh {h D : Addr} {S0 H : Hp} {ns : List Int} : ∀ {zs : List V} {ss : List Sh}, Paired (HdAt h D S0 H) zs ss → (∀ s ∈ ss, threeB ns s = true) → ∃ ss', ShAll H zs ss' ∧ (∀ s' ∈ ss', threeB ns s' = true) ∧ trs ss' = trs ss
  | _, _, .nil, _ => ⟨[], .nil, (fun s hs => by cases hs), rfl⟩
  | _, s :: ss, .cons r t, g => by
    obtain ⟨a, s', e, i, its, sq, _⟩ := r
    obtain ⟨ss', i1, i2, i3⟩ := hd_sh t fun s hs => g s (List.mem_cons_of_mem _ hs)
    have th := three_sh its (g s List.mem_cons_self) sq
    obtain ⟨p, q', r, e1, _⟩ := thr_sh th
    refine ⟨s' :: ss', .cons ⟨i, sc_known fun u hu => ?_⟩ i1, fun u hu => ?_, ?_⟩
    · rw [e1] at hu
      simp only [List.mem_cons, List.not_mem_nil, or_false] at hu
      rcases hu with rfl | rfl | rfl <;> rfl
    · rcases List.mem_cons.mp hu with rfl | hu
      · exact th
      · exact i2 u hu
    · show (items s').map ofV :: trs ss' = (items s).map ofV :: trs ss
      rw [its, i3]
/-- the things handed in while they are spoiled -/
def Spo (D : Addr) (S0 H : Hp) (i : Nat) (z : V) : Prop := ∃ a, z = .ref a ∧ a ≠ D ∧ ((∃ ys, H a = some (.lst ys) ∧ ys.length ≤ 3 + i ∧ S0 a = none) ∨ ∃ ys, H a = some (.tup ys))
theorem hd_spo {h D : Addr} {S0 H : Hp} {ns : List Int} : ∀ {zs : List V} {ss : List Sh}, Paired (HdAt h D S0 H) zs ss → (∀ s ∈ ss, threeB ns s = true) → ∀ z ∈ zs, Spo D S0 H 0 z
  | _, _, .nil, _ => fun z hz => by cases hz
  | _, s :: ss, .cons r t, g => fun z hz => by
    rcases List.mem_cons.mp hz with rfl | hz
    · obtain ⟨a, s', rfl, i, its, sq, n, m, fr⟩ := r
      obtain ⟨p, q', r, e1, _⟩ := thr_sh (g s List.mem_cons_self)
      cases s' with
      | sc u => cases sq
      | dk => cases sq
      | lst xs =>
        obtain ⟨b, e, eb⟩ := i
        injection e with e
        have : xs = [.int p, .int q', .int r] := its.trans e1
        exact ⟨a, rfl, m, .inl ⟨xs, by rw [e]; exact eb, by rw [this]; exact Nat.le_refl _, fr rfl⟩⟩
      | tup xs =>
        obtain ⟨b, e, eb⟩ := i
        injection e with e
        exact ⟨a, rfl, m, .inr ⟨xs, by rw [e]; exact eb⟩⟩
    · exact hd_spo t (fun s hs => g s (List.mem_cons_of_mem _ hs)) z hz
theorem Spo.keep {D : Addr} {S0 H H' : Hp} {i : Nat} {z : V} (s : Spo D S0 H i z) (S : Same H H') : Spo D S0 H' i z := by
  obtain ⟨a, e, n, ⟨ys, r1, r2⟩ | ⟨ys, r1⟩⟩ := s
  · exact ⟨a, e, n, .inl ⟨ys, S _ _ r1, r2⟩⟩
  · exact ⟨a, e, n, .inr ⟨ys, S _ _ r1⟩⟩
theorem Spo.up {D : Addr} {S0 H : Hp} {i : Nat} {z : V} (s : Spo D S0 H i z) : Spo D S0 H (i + 1) z := by
  obtain ⟨a, e, n, ⟨ys, r1, r2, r3⟩ | ⟨ys, r1⟩⟩ := s
  · exact ⟨a, e, n, .inl ⟨ys, r1, by omega, r3⟩⟩
  · exact ⟨a, e, n, .inr ⟨ys, r1⟩⟩
theorem Spo.put {D b : Addr} {S0 H : Hp} {i : Nat} {z v : V} {ys : List V} (s : Spo D S0 H i z) (e : H b = some (.lst ys)) (l : ys.length ≤ 3 + i) : Spo D S0 (upd H b (.lst (ys ++ [v]))) (i + 1) z := by
  obtain ⟨a, ea, n, r⟩ := s
  by_cases q : a = b
  · subst q
    rcases r with ⟨zs, r1, r2, r3⟩ | ⟨zs, r1⟩
    · exact ⟨a, ea, n, .inl ⟨_, upd_same, by rw [List.length_append]; show ys.length + 1 ≤ _; omega, r3⟩⟩
    · rw [e] at r1
      cases r1
  · rcases r with ⟨zs, r1, r2, r3⟩ | ⟨zs, r1⟩
    · exact ⟨a, ea, n, .inl ⟨zs, by rw [upd_ne q]; exact r1, by omega, r3⟩⟩
    · exact ⟨a, ea, n, .inr ⟨zs, by rw [upd_ne q]; exact r1⟩⟩
structure GroS (h q : Addr) (S0 H : Hp) (D : Addr) (ss : List Sh) (i : Nat) : Prop where
  B : But h S0 H
  hh : Hand H h q
  f : S0 D = none
  nh : D ≠ h
  nq : D ≠ q
  ex : ∃ zs : List V, H D = some (.lst zs) ∧ zs.length = i ∧ Paired (HdAt h D S0 H) zs (ss.take i)
def M16 (C CB : Addr) (σ : L2.St) (H : Hp) : Prop := ∃ (a h q b x wd y1 y2 : Addr) (ns : List Int) (ts : List (List Int)) (v5 v6 v7 v8 v9 v10 v11 v13 v16 : Option V), σ = [some (.ref a), some (.ref h), some (.int (ns.length : Nat)), some (.ref b), some (.ref x), v5, v6, v7, v8, v9, v10, v11, some (.ref wd), v13, some (.ref y1), some (.ref y2), v16, none, none, none, none, none, none, none, none] ∧ Core C h q b x ns H ∧
  WAt H wd ns (brd ns ts) ∧ BookAt C CB H y1 ns (brd ns ts) ∧ BookAt C CB H y2 ns (lts ns ts) ∧ ∀ t ∈ ts, t ∈ A3 ns.length ns.length
section
variable {P : Program} {w : World} {K : PySem.W.Frag} {mg : Str → Option Value} {base : Heap} {f : Addr} {cdv : Value} {A : Around} {outer : List Env} {s : Shared} {H0 : Hp} {E0 : XK}
theorem seg5 {C CB CE fS fI pL gL : Addr} {fdS fdI fdL : FuncData} (hr : Room 10 (XL P w K mg base f cdv A outer s H0 E0).A) (nis : mg "isinstance" = none) (nli : mg "list" = none) (nt : mg "tuple" = none)
    (GS : Cal P w K mg base CX0 3 "_law_shape" fS fdS ["_law_hand_here", "_law_row"] spShape2) (mB : mg "Book" = some (.ref CB)) (MI : Mk K CB fI) (FI : FnOk P w K mg base (L2.CX P w) 6 fI fdI ["self", "ties", "barred"] (spBI K C CB CE)) (bI : Binds K fdI ["self", "ties", "barred"] [])
    (rB : ClX.CRead K CB (.type "type")) (cS : CSta K CB (.type "type") "letting" pL gL) (FL : FnOk P w K mg base (L2.CX P w) 8 gL fdL ["ties", "threes"] (spLet C CB CE)) (bL : Binds K fdL ["ties", "threes"] []) : SegT (XL P w K mg base f cdv A outer s H0 E0) (cut 11 5) (M11 C) (M16 C CB) := by
  intro rest u hu
  have hr7 : Room 7 _ := hr.mono (by decide)
  have hr8 : Room 8 _ := hr.mono (by decide)
  refine ⟨_, (pss_cons 
  (ps_setLc (i := 13) (own := [("_law_three", 16)]) (g := gName 16) rfl sc_law.nd rfl rfl (sw_true rfl rfl rfl (by decide +kernel)) (pi_list (pv 11)) (blkOk_by (own := [("_law_three", 16)]) (N := Nlaw) (sc := defScope s_law) (by decide +kernel)) (fun _ _ _ _ _ => pg_name (i := 16) sc_law.nd rfl (Or.inl rfl)) (fun _ _ _ _ _ => pts_nil) (fun _ _ _ _ _ => (pcal GS hr pass0 (pa_cons (pv 1) (pa_cons (pv 16) pa_nil))))) (pss_cons 
  (ps_set (i := 14) sc_law.nd rfl (Or.inl rfl) (pe_make MI FI hr7 rfl mB bI .nil passL (pa_cons (pv 4) (pa_cons (pv 13) pa_nil)))) (pss_cons 
  (ps_set (i := 15) sc_law.nd rfl (Or.inl rfl) (pe_sta (pe_glob (v := .ref CB) rfl mB rfl) rB cS FL hr8 bL passL (pa_cons (pv 4) (pa_cons (pe_callTy (T := "tuple") (r := rTup K) call_tuple_of (by rfl) nt (by decide +kernel) (pa_cons (pv 13) pa_nil)) pa_nil)))) (pss_cons 
  (ps_for PassesOwn.never rfl (pi_list (pv 13)) (pg_name (i := 16) sc_law.nd rfl (Or.inl rfl)) (pss_one 
    (ps_if (pt_val (pe_callB (id := "isinstance") (r := rIsi K) call_isi (by rfl) nis (by decide +kernel) (pa_cons (pv 16) (pa_cons (pe_bltn (by rfl) nli (by decide +kernel) (v := .ty "list") rfl) pa_nil)))) (pss_one 
      (ps_expr (pe_bm PySem.F.plainAttrs_list PySem.F.slot_list_append PySem.F.type_list_append mt_append (pv 16) (pa_cons pe_int pa_nil)))) pss_nil))) (pss_cons 
  (ps_expr (pe_bm PySem.F.plainAttrs_list PySem.F.slot_list_append PySem.F.type_list_append mt_append (pv 13) (pa_cons (pe_tup (pa_cons pe_int (pa_cons pe_int (pa_cons pe_int pa_nil)))) pa_nil))) hu))))), fun D0 σ H m k => ?_⟩
  obtain ⟨a, h, q, b, x, R, wd, ns, v5, v6, v7, v8, v9, v10, xs, ss, rfl, c, eR, nR, rl, lx, W⟩ := m
  refine ⟨_, rfl, R, rfl, ⟨_, SqL.of eR⟩, fun D hD => ?_⟩
  obtain ⟨nD, nDq⟩ := c.hh.same_h' hD
  refine lc_list (K := K) (a := R) (xs := xs) (fun i H' => GroS h q H H' D ss i) ⟨But.new hD, c.hh.new hD, hD, nD, nDq, [], upd_same, rfl, .nil⟩ (fun i H' _ p => SqL.of (p.B _ _ nR eR)) ?_ ?_
  · rintro i v H2 hv ⟨B2, h2, _, _, _, zs, eD, lz, pz⟩
    obtain ⟨s1, es, i1, n1, sc1, g1⟩ := paired_at rl hv
    have hi := (List.getElem?_eq_some_iff.mp hv).1
    obtain ⟨_, _, _, _, _, _, _, sq1⟩ := thr_sh (g1 ns rfl)
    refine ⟨rfl, yesT ?_⟩
    refine ⟨_, rfl, _, rfl, h, q, v, s1, rfl, h2, i1.but n1 B2, sq1, n1, fun H3 z s' B3 h3 iz its sq nz fz => ?_⟩
    have eD3 := B3 _ _ nD eD
    have nzD : z ≠ D := fun e => by
      cases s' with
      | sc u => cases sq
      | dk => cases sq
      | lst xs =>
        have := fz rfl
        rw [e, eD] at this
        cases this
      | tup xs =>
        obtain ⟨b, e', q⟩ := iz
        injection e' with e'
        rw [← e', e, eD3] at q
        cases q
    refine ⟨zs, eD3, small1000 (by omega), (B2.trans B3).put2 hD, h3.put nD.symm nDq.symm, hD, nD, nDq, zs ++ [.ref z], upd_same, by simp [lz], ?_⟩
    rw [List.take_add_one, es]
    exact paired_app (Paired.mapP pz fun _ _ e => (e.but B3).put) (HdAt.put ⟨z, s', rfl, iz, its, sq, nz, nzD, fun e => B2.free nz (fz e)⟩)
  rintro H2 ⟨B2, h2, _, _, _, zs, eD, lz, pz⟩
  rw [Paired.length rl, List.take_length] at pz
  rw [Paired.length rl] at lz
  have c2 := c.but B2 h2
  obtain ⟨ss', sh, gd, tr⟩ := hd_sh pz rl.good
  obtain ⟨_, tA⟩ := thr_of rl.sh rl.good
  have sp := hd_spo pz rl.good
  -- book
  refine ⟨_, rfl, _, rfl, mk_book (ArgB.good c2.T c2.gb (s := .lst zs) ⟨D, rfl, eD⟩ rfl sh gd fun H3 y1 S3 n3 B1 => ⟨rfl, ?_⟩)⟩
  rw [tr] at B1
  have eD3 := S3 _ _ eD
  -- lets
  refine ⟨rfl, _, rfl, _, rfl, D, _, rfl, .inl ⟨SqL.of eD3, fun wt hwt => ?_⟩⟩
  have c3 := c2.keep S3
  have S4 : Same H3 (upd H3 wt (.tup zs)) := new_same hwt
  refine ⟨.ref x, .ref wt, rfl, ArgB.good (c3.T.keep S4) c3.gb (s := .tup zs) ⟨wt, rfl, upd_same⟩ rfl (sh.keep (S3.trans S4)) gd fun H5 y2 S5 n5 B5 => ?_⟩
  rw [tr] at B5
  have S25 := (S3.trans S4).trans S5
  have eD5 := S25 _ _ eD
  have sp5 : ∀ z ∈ zs, Spo D H H5 0 z := fun z hz => (sp z hz).keep S25
  have B1 := (B1.keep S4).keep S5
  have BH : But h H H5 := B2.trans (But.same S25)
  have h5 := h2.keep S25
  clear S3 S4 S5 S25 hwt n5 n3
  -- the handed things are spoiled
  refine ⟨_, rfl, D, rfl, ⟨_, SqL.of eD5⟩, for_list (K := K) (a := D) (xs := zs) (fun i σ H' => ∃ v16 : Option V, σ = [some (.ref a), some (.ref h), some (.int (ns.length : Nat)), some (.ref b), some (.ref x), v5, v6, v7, v8, v9, v10, some (.ref R), some (.ref wd), some (.ref D), some (.ref y1), some (.ref y2), v16, none, none, none, none, none, none, none, none] ∧ NL H H5 H' ∧ H' D = some (.lst zs) ∧ ∀ z ∈ zs, Spo D H H' i z)
    ⟨none, rfl, NL.refl _ _, eD5, sp5⟩ (fun i σ H' _ ⟨_, _, _, e, _⟩ => SqL.of e) ?_ ?_⟩
  · rintro i z σ H6 hz ⟨v16, rfl, N6, eD6, sp6⟩
    have hi := (List.getElem?_eq_some_iff.mp hz).1
    have hx := Paired.length rl
    obtain ⟨e, rfl, nD6, r⟩ := sp6 z (List.mem_of_getElem? hz)
    rcases r with ⟨ys, e1, e2, e3⟩ | ⟨ys, e1⟩
    · obtain ⟨t, ht, _, _, kl, _⟩ := Is.ty (K := K) (H := H6) (x := .ref e) (s := .lst ys) ⟨e, rfl, e1⟩
      refine ⟨_, rfl, _, _, _, _, true, rfl, .ty "list", ht, kit_ty kl, _, rfl, iteT ?_⟩
      refine ⟨_, rfl, .inl ⟨rfl, _, SqL.of e1⟩, e, _, _, rfl, rfl, e1, small1000 (by omega), ?_⟩
      exact ⟨_, rfl, N6.trans (NL.put e1 e3), by rw [upd_ne nD6.symm]; exact eD6, fun z hz => (sp6 z hz).put e1 e2⟩
    · obtain ⟨t, ht, _, _, kl, _⟩ := Is.ty (K := K) (H := H6) (x := .ref e) (s := .tup ys) ⟨e, rfl, e1⟩
      refine ⟨_, rfl, _, _, _, _, false, rfl, .ty "list", ht, kit_ty kl, _, rfl, iteF ?_⟩
      exact ⟨_, rfl, N6, eD6, fun z hz => (sp6 z hz).up⟩
  rintro σ H6 ⟨v16, rfl, N6, eD6, sp6⟩
  refine ⟨_, rfl, .inl ⟨rfl, _, SqL.of eD6⟩, (by show 3 ≤ sizeLine; decide), fun p hp => ?_⟩
  have S7 := new_same (o := .tup [.int 0, .int 0, .int 0]) hp
  refine ⟨D, _, _, rfl, rfl, S7 _ _ eD6, small1000 (by rw [lz, ← Paired.length rl]; omega), ?_⟩
  have N8 := (N6.trans (NL.same S7)).trans (NL.put (ys := zs ++ [.ref p]) (S7 _ _ eD6) hD)
  have B8 := N8.but BH
  have hh := c.hh
  obtain ⟨cs, i0, r0, t0, eh, eq, _⟩ := id hh
  exact k _ _ ⟨a, h, q, b, x, wd, y1, y2, ns, trs ss, _, _, _, _, _, _, _, _, _, rfl, c.but B8 (h5.nl N8 (some_ne eh) (some_ne eq)), W.but c.hh c.gb c.n2 B8, B1.nl N8, B5.nl N8, tA⟩
end
end J

set_option Elab.async false
set_option linter.all false
set_option maxRecDepth 100000
set_option maxHeartbeats 8000000
namespace J
open PySem PySem.Spec PyProof.Rows L2
theorem A3_le : ∀ n, n ≤ 4 → (A3 n n).length ≤ 64 := by decide +kernel
/-- the books that are made, and the world -/
structure Bk (C CB h q b x wd y1 y2 : Addr) (ns : List Int) (ts : List (List Int)) (H : Hp) : Prop where
  c : Core C h q b x ns H
  W : WAt H wd ns (brd ns ts)
  B1 : BookAt C CB H y1 ns (brd ns ts)
  B2 : BookAt C CB H y2 ns (lts ns ts)
  tA : ∀ t ∈ ts, t ∈ A3 ns.length ns.length
theorem Bk.keep {C CB h q b x wd y1 y2 : Addr} {ns : List Int} {ts : List (List Int)} {H H' : Hp} (k : Bk C CB h q b x wd y1 y2 ns ts H) (S : Same H H') : Bk C CB h q b x wd y1 y2 ns ts H' := ⟨k.c.keep S, k.W.keep S, k.B1.keep S, k.B2.keep S, k.tA⟩
theorem Bk.but {C CB h q b x wd y1 y2 : Addr} {ns : List Int} {ts : List (List Int)} {H H' : Hp} (k : Bk C CB h q b x wd y1 y2 ns ts H) (B : But h H H') (hh : Hand H' h q) : Bk C CB h q b x wd y1 y2 ns ts H' := by
  obtain ⟨us, eh⟩ := k.c.hh.at_
  exact ⟨k.c.but B hh, k.W.but k.c.hh k.c.gb k.c.n2 B, k.B1.but eh B, k.B2.but eh B, k.tA⟩
/-- world[1][three[0]][three[1]][three[2]] -/
abbrev tLook (K : PySem.W.Frag) : TE := tOp (rIxL K) (tOp (rIxL K) (tOp (rIxL K) (tOp (rIxT K) (tVar 12) (tC (.int 1))) (tOp (rIxT K) (tVar 16) (tC (.int 0)))) (tOp (rIxT K) (tVar 16) (tC (.int 1)))) (tOp (rIxT K) (tVar 16) (tC (.int 2)))
theorem w_look {K : PySem.W.Frag} {σ : L2.St} {H : Hp} {Q : VK} {wd t : Addr} {ns : List Int} {L : List (List Int)} {p q r : Int} (h12 : σ[12]? = some (some (.ref wd))) (h16 : σ[16]? = some (some (.ref t))) (W : WAt H wd ns L) (et : H t = some (.tup [.int p, .int q, .int r])) (ip : InT ns p) (iq : InT ns q) (ir : InT ns r)
    (k : Q (.bl (!decide ([p, q, r] ∈ L))) H) : tLook K σ H Q := by
  obtain ⟨b, z, po, ro, a1, a2, a3, a4, a5⟩ := W
  obtain ⟨p, rfl, hp⟩ := inT_nat ip
  obtain ⟨q, rfl, hq⟩ := inT_nat iq
  obtain ⟨r, rfl, hr⟩ := inT_nat ir
  refine ⟨_, h12, wd, _, _, _, rfl, rfl, SqT.of a1, at_of (j := 1) (v := .ref z) rfl rfl, ?_⟩
  refine ⟨_, h16, t, _, _, _, rfl, rfl, SqT.of et, at_of (j := 0) (v := .int p) rfl rfl, z, _, _, _, rfl, rfl, SqL.of a3, at_of (j := p) rfl (refs_at hp), ?_⟩
  refine ⟨_, h16, t, _, _, _, rfl, rfl, SqT.of et, at_of (j := 1) (v := .int q) rfl rfl, po p, _, _, _, rfl, rfl, SqL.of (a4 p hp), at_of (j := q) rfl (refs_at hq), ?_⟩
  exact ⟨_, h16, t, _, _, _, rfl, rfl, SqT.of et, at_of (j := 2) (v := .int r) rfl rfl, ro p q, _, _, _, rfl, rfl, SqL.of (a5 p q hp hq), at_of (j := r) rfl (bools_at hr), k⟩
def M18 (C CB : Addr) (σ : L2.St) (H : Hp) : Prop := ∃ (a h q b x wd y1 y2 D : Addr) (ns : List Int) (ts : List (List Int)) (v5 v6 v7 v8 v9 v10 v11 v13 v16 : Option V), σ = [some (.ref a), some (.ref h), some (.int (ns.length : Nat)), some (.ref b), some (.ref x), v5, v6, v7, v8, v9, v10, v11, some (.ref wd), v13, some (.ref y1), some (.ref y2), v16, some (.ref D), none, none, none, none, none, none, none] ∧ Bk C CB h q b x wd y1 y2 ns ts H ∧
  LstsAt H D ((brd ns ts).filter (isL ns)) ∧ D ≠ h
section
variable {P : Program} {w : World} {K : PySem.W.Frag} {mg : Str → Option Value} {base : Heap} {f : Addr} {cdv : Value} {A : Around} {outer : List Env} {s : Shared} {H0 : Hp} {E0 : XK}
theorem seg6 {C CB fC fS fP : Addr} {fdC fdS fdP : FuncData} (hr : Room 10 (XL P w K mg base f cdv A outer s H0 E0).A) (nt : mg "tuple" = none) (cB : BoC K CB)
    (GC : Cal P w K mg base CX0 2 "_law_classes" fC fdC ["_law_backs_here"] spLC) (GS : Cal P w K mg base CX0 4 "_law_same_barred" fS fdS ["_law_book", "_law_world"] (spLS C CB)) (GP2 : Cal P w K mg base CX0 3 "_law_plain" fP fdP ["_law_answer", "_law_due"] spP2) : SegT (XL P w K mg base f cdv A outer s H0 E0) (cut 16 2) (M16 C CB) (M18 C CB) := by
  intro rest u hu
  refine ⟨_, (pss_cons 
  (ps_setLc (i := 17) (own := [("_law_three", 16)]) (g := gName 16) rfl sc_law.nd rfl rfl (sw_true rfl rfl rfl (by decide +kernel)) (pi_list (pcal GC hr pass0 (pa_cons (pv 3) pa_nil))) (blkOk_by (own := [("_law_three", 16)]) (N := Nlaw) (sc := defScope s_law) (by decide +kernel)) (fun _ _ _ _ _ => pg_name (i := 16) sc_law.nd rfl (Or.inl rfl)) (fun _ _ _ _ _ => pts_one (pt_not (pt_val (pe_ix (r := rIxL K) ix_list (pe_ix (r := rIxL K) ix_list (pe_ix (r := rIxL K) ix_list (pe_ix (r := rIxT K) ix_tup (pv 12) pe_int (fun _ _ => rfl)) (pe_ix (r := rIxT K) ix_tup (pv 16) pe_int (fun _ _ => rfl)) (fun _ _ => rfl)) (pe_ix (r := rIxT K) ix_tup (pv 16) pe_int (fun _ _ => rfl)) (fun _ _ => rfl)) (pe_ix (r := rIxT K) ix_tup (pv 16) pe_int (fun _ _ => rfl)) (fun _ _ => rfl))))) (fun _ _ _ _ _ => (pv 16))) (pss_cons 
  (ps_if (PW.pt (pw_or (pt_not (pt_val (pcal GS hr pass0 (pa_cons (pv 14) (pa_cons (pv 12) pa_nil))))) (pw_or1 (pt_not (pt_val (pcal GP2 hr pass0 (pa_cons (pe_fld (pv 14) rfl) (pa_cons (pe_callTy (T := "tuple") (r := rTup K) call_tuple_of (by rfl) nt (by decide +kernel) (pa_cons (pv 17) pa_nil)) pa_nil)))))))) (pss_one 
    (ps_ret pe_bl)) pss_nil) hu)), fun D0 σ H m k => ?_⟩
  obtain ⟨a, h, q, b, x, wd, y1, y2, ns, ts, v5, v6, v7, v8, v9, v10, v11, v13, v16, rfl, c, W, B1, B2, tA⟩ := m
  have bk : Bk C CB h q b x wd y1 y2 ns ts H := ⟨c, W, B1, B2, tA⟩
  have l64 := A3_le ns.length c.gb.hi
  refine ⟨_, rfl, b, ns, rfl, c.eb, c.gb, fun H1 z S1 nz LZ => ?_⟩
  replace bk := bk.keep S1
  obtain ⟨ps, ez, pl, pj⟩ := id LZ
  have lL : ((A3 ns.length ns.length).filter (isL ns)).length ≤ 64 := Nat.le_trans (List.length_filter_le _ _) l64
  have LA : ∀ t ∈ (A3 ns.length ns.length).filter (isL ns), t ∈ A3 ns.length ns.length := fun t h => (List.mem_filter.mp h).1
  have lf := least_filter (ns := ns) (ts := ts)
  generalize (A3 ns.length ns.length).filter (isL ns) = L at ez pl pj lL LA lf
  refine ⟨z, rfl, ⟨_, SqL.of ez⟩, fun D hD => ?_⟩
  have nD := hand_free bk.c.hh hD
  refine lc_list (K := K) (a := z) (xs := ps.map V.ref) (fun i H' => Gro H1 H' D ((L.take i).filter (inL (brd ns ts)))) (Gro.nil hD) (fun i H' _ G => SqL.of (G.S _ _ ez)) ?_ ?_
  · rintro i y H2 hy G
    have hi : i < ps.length := by
      have := (List.getElem?_eq_some_iff.mp hy).1
      rwa [List.length_map] at this
    have ep := List.getElem?_eq_getElem hi
    have et := List.getElem?_eq_getElem (l := L) (i := i) (by omega)
    obtain rfl : V.ref ps[i] = y := by
      rw [List.getElem?_map, ep] at hy
      exact Option.some.inj hy
    obtain ⟨p, q', r, e3, ip, iq, ir⟩ := A3_in (LA _ (List.mem_of_getElem? et)) rfl
    have tk := take_filter (p := inL (brd ns ts)) et
    rw [e3] at et tk
    have tp := G.S _ _ (pj i _ _ ep et)
    have fl : ((L.take i).filter (inL (brd ns ts))).length ≤ (L.take i).length := List.length_filter_le _ _
    rw [List.length_take] at fl
    refine ⟨rfl, w_look (ns := ns) (p := p) (q := q') (r := r) rfl rfl (bk.W.keep G.S) tp ip iq ir ⟨_, rfl, ?_⟩⟩
    by_cases cm : [p, q', r] ∈ brd ns ts
    · rw [show inL (brd ns ts) [p, q', r] = true from decide_eq_true cm, if_pos rfl] at tk
      refine if_tr (by rw [decide_eq_true cm]; rfl) ⟨_, rfl, ?_⟩
      obtain ⟨acc, q1, q2, q3⟩ := G.app (ts := [p, q', r]) tp
      refine ⟨acc, q1, small1000 (by omega), ?_⟩
      show Gro H1 _ D ((L.take (i + 1)).filter (inL (brd ns ts)))
      rw [tk]
      exact q3
    · rw [show inL (brd ns ts) [p, q', r] = false from decide_eq_false cm, if_neg (by simp), List.append_nil] at tk
      refine if_fa (by rw [decide_eq_false cm]; rfl) ?_
      show Gro H1 _ D ((L.take (i + 1)).filter (inL (brd ns ts)))
      rw [tk]
      exact G
  rintro H2 G
  rw [List.length_map, pl, List.take_length, lf] at G
  replace bk := bk.keep G.S
  have LD := G.lsts
  clear G LZ lf ez pj
  refine ⟨_, rfl, _, rfl, y1, wd, ns, brd ns ts, rfl, bk.B1, bk.W, bk.c.gb, inL_brd, fun H3 S3 => ⟨_, rfl, if_fa (by simp) ?_⟩⟩
  replace bk := bk.keep S3
  replace LD := LD.keep S3
  obtain ⟨dx, t, bb, l, r, a1, a2, a3, a4, a5⟩ := id bk.B1
  obtain ⟨ds, ed, _⟩ := id LD
  refine ⟨_, rfl, y1, CB, dx, _, _, rfl, a1, cB.cl, cB.nL, bf_least _ _ _ _, ?_⟩
  refine ⟨_, rfl, D, _, rfl, .inl ⟨SqL.of ed, fun w4 hw4 => ⟨l, w4, _, rfl, a4.keep (new_same hw4), LD.tup ed hw4, fun H5 S5 => ⟨_, rfl, iteF ?_⟩⟩⟩⟩
  have S35 := (new_same (o := .tup (ds.map V.ref)) hw4).trans S5
  exact k _ _ ⟨a, h, q, b, x, wd, y1, y2, D, ns, ts, _, _, _, _, _, _, _, _, _, rfl, bk.keep S35, LD.keep S35, nD⟩
end
end J

set_option Elab.async false
set_option linter.all false
set_option maxRecDepth 100000
set_option maxHeartbeats 8000000
namespace J
open PySem PySem.Spec PyProof.Rows L2
theorem LstsAt.thr {H : Hp} {z : Addr} {ns : List Int} {L : List (List Int)} (h : LstsAt H z L) (hA : ∀ t ∈ L, t ∈ A3 ns.length ns.length) : ∃ xs, H z = some (.lst xs) ∧ ThrAt H xs L := by
  obtain ⟨ps, e1, e2, e3⟩ := h
  refine ⟨_, e1, ?_⟩
  have := (thr_of (ns := ns) (sh_tups e2 e3) fun s' hs' => by
    obtain ⟨t, ht, rfl⟩ := List.mem_map.mp hs'
    exact sh_three (hA t ht)).1
  rw [trs_shT] at this
  exact this
def M21 (C CB : Addr) (σ : L2.St) (H : Hp) : Prop := ∃ (a h q b x wd y1 y2 D : Addr) (ns : List Int) (ts : List (List Int)) (v5 v6 v7 v8 v9 v10 v11 v13 v16 v18 : Option V), σ = [some (.ref a), some (.ref h), some (.int (ns.length : Nat)), some (.ref b), some (.ref x), v5, v6, v7, v8, v9, v10, v11, some (.ref wd), v13, some (.ref y1), some (.ref y2), v16, some (.ref D), v18, none, none, none, none, none, none] ∧ Bk C CB h q b x wd y1 y2 ns ts H ∧
  LstsAt H D ((brd ns ts).filter (isL ns)) ∧ D ≠ h
section
variable {P : Program} {w : World} {K : PySem.W.Frag} {mg : Str → Option Value} {base : Heap} {f : Addr} {cdv : Value} {A : Around} {outer : List Env} {s : Shared} {H0 : Hp} {E0 : XK}
theorem seg7 {C CB fC fL fB' fT fP : Addr} {fdC fdL fdB' fdT fdP : FuncData} (hr : Room 10 (XL P w K mg base f cdv A outer s H0 E0).A) (nt : mg "tuple" = none) (cB : BoC K CB)
    (GC : Cal P w K mg base CX0 2 "_law_classes" fC fdC ["_law_backs_here"] spLC) (GL : Cal P w K mg base CX0 2 "_law_let" fL fdL ["_law_backs_here", "_law_classes_here"] spLL) (GB : Cal P w K mg base CX0 1 "_law_barred" fB' fdB' ["_law_world"] spLB)
    (GT : Cal P w K mg base CX0 5 "_law_tells" fT fdT ["_law_book", "_law_world"] (spLS C CB)) (GP2 : Cal P w K mg base CX0 3 "_law_plain" fP fdP ["_law_answer", "_law_due"] spP2) : SegT (XL P w K mg base f cdv A outer s H0 E0) (cut 18 3) (M18 C CB) (M21 C CB) := by
  intro rest u hu
  refine ⟨_, (pss_cons 
  (ps_set (i := 18) sc_law.nd rfl (Or.inl rfl) (pe_lst pa_nil)) (pss_cons 
  (ps_for PassesOwn.never rfl (pi_list (pcal GB hr pass0 (pa_cons (pe_tup (pa_cons (pv 3) (pa_cons (pcal GL hr pass0 (pa_cons (pv 3) (pa_cons (pcal GC hr pass0 (pa_cons (pv 3) pa_nil)) pa_nil))) pa_nil))) pa_nil))) (pg_name (i := 16) sc_law.nd rfl (Or.inl rfl)) (pss_one 
    (ps_if (pt_val (pe_ix (r := rIxL K) ix_list (pe_ix (r := rIxL K) ix_list (pe_ix (r := rIxL K) ix_list (pe_ix (r := rIxT K) ix_tup (pv 12) pe_int (fun _ _ => rfl)) (pe_ix (r := rIxT K) ix_tup (pv 16) pe_int (fun _ _ => rfl)) (fun _ _ => rfl)) (pe_ix (r := rIxT K) ix_tup (pv 16) pe_int (fun _ _ => rfl)) (fun _ _ => rfl)) (pe_ix (r := rIxT K) ix_tup (pv 16) pe_int (fun _ _ => rfl)) (fun _ _ => rfl))) (pss_one 
      (ps_expr (pe_bm PySem.F.plainAttrs_list PySem.F.slot_list_append PySem.F.type_list_append mt_append (pv 18) (pa_cons (pv 16) pa_nil)))) pss_nil))) (pss_cons 
  (ps_if (PW.pt (pw_or (pt_not (pt_val (pcal GP2 hr pass0 (pa_cons (pe_fld (pv 15) rfl) (pa_cons (pe_callTy (T := "tuple") (r := rTup K) call_tuple_of (by rfl) nt (by decide +kernel) (pa_cons (pv 18) pa_nil)) pa_nil))))) (pw_or1 (pt_not (pt_val (pcal GT hr pass0 (pa_cons (pv 14) (pa_cons (pv 12) pa_nil)))))))) (pss_one 
    (ps_ret pe_bl)) pss_nil) hu))), fun D0 σ H m k => ?_⟩
  obtain ⟨a, h, q, b, x, wd, y1, y2, D, ns, ts, v5, v6, v7, v8, v9, v10, v11, v13, v16, rfl, bk, LD, nD⟩ := m
  have gb := bk.c.gb
  have l64 := A3_le ns.length gb.hi
  refine ⟨Nat.zero_le _, fun O hO => ?_⟩
  have G1 := Gro.nil (H1 := H) hO
  have c1 := bk.c.keep G1.S
  have eO1 : (upd H O (.lst [])) O = some (.lst []) := upd_same
  generalize upd H O (.lst []) = H1 at G1 c1 eO1 ⊢
  refine ⟨_, rfl, _, rfl, _, rfl, b, ns, rfl, c1.eb, gb, fun H2 z S2 nz LZ => ?_⟩
  have LA : ∀ t ∈ (A3 ns.length ns.length).filter (isL ns), t ∈ A3 ns.length ns.length := fun t h => (List.mem_filter.mp h).1
  have c2 := c1.keep S2
  obtain ⟨xs, ez, th⟩ := LZ.thr (ns := ns) LA
  refine ⟨b, z, ns, xs, _, rfl, c2.eb, gb, ez, th, LA, fun H3 z3 po ro W3 => ⟨(by show 2 ≤ sizeLine; decide), fun wd2 hwd2 => ?_⟩⟩
  rw [brd_least gb] at W3
  have S4 := new_same (o := .tup [.ref b, .ref z3]) hwd2
  have S14 := (S2.trans W3.S).trans S4
  refine ⟨wd2, ns, A3 ns.length ns.length, rfl, (W3.keep S4).world (S4 _ _ (W3.S _ _ c2.eb)) upd_same, gb, fun H5 z5 S5 nz5 LZ5 => ?_⟩
  rw [inL_A3] at LZ5
  have nzO : z5 ≠ O := (ne_of_none (S14 _ _ eO1) nz5).symm
  have S15 := S14.trans S5
  have G5 := G1.keep S15
  have eO5 := S15 _ _ eO1
  clear S2 S4 S5 S14 S15 LZ th ez W3 c1 c2 G1 eO1 hwd2 nz nz5
  obtain ⟨ps, ez, pl, pj⟩ := id LZ5
  refine ⟨z5, rfl, ⟨_, SqL.of ez⟩, for_list (K := K) (a := z5) (xs := ps.map V.ref) (fun i σ H' => ∃ v16 : Option V, σ = [some (.ref a), some (.ref h), some (.int (ns.length : Nat)), some (.ref b), some (.ref x), v5, v6, v7, v8, v9, v10, v11, some (.ref wd), v13, some (.ref y1), some (.ref y2), v16, some (.ref D), some (.ref O), none, none, none, none, none, none] ∧ But O H5 H' ∧ Gro H H' O (((A3 ns.length ns.length).take i).filter fun t => !decide (t ∈ brd ns ts)))
    ⟨v16, rfl, But.refl _ _, G5⟩ (fun i σ H' _ ⟨_, _, B, _⟩ => SqL.of (B _ _ nzO ez)) ?_ ?_⟩
  · rintro i y σ H6 hy ⟨v16, rfl, B, G⟩
    have hi : i < ps.length := by
      have := (List.getElem?_eq_some_iff.mp hy).1
      rwa [List.length_map] at this
    have ep := List.getElem?_eq_getElem hi
    have et := List.getElem?_eq_getElem (l := A3 ns.length ns.length) (i := i) (by omega)
    obtain rfl : V.ref ps[i] = y := by
      rw [List.getElem?_map, ep] at hy
      exact Option.some.inj hy
    obtain ⟨p, q', r, e3, ip, iq, ir⟩ := A3_in (List.mem_of_getElem? et) rfl
    have tk := take_filter (p := fun t => !decide (t ∈ brd ns ts)) et
    rw [e3] at et tk
    have tp0 := pj i _ _ ep et
    have ntO : ps[i] ≠ O := ne_of tp0 eO5 (by intro z; cases z)
    have tp := B _ _ ntO tp0
    have fl : (((A3 ns.length ns.length).take i).filter fun t => !decide (t ∈ brd ns ts)).length ≤ ((A3 ns.length ns.length).take i).length := List.length_filter_le _ _
    rw [List.length_take] at fl
    refine w_look (ns := ns) (p := p) (q := q') (r := r) rfl rfl (bk.W.keep G.S) tp ip iq ir ⟨_, rfl, ?_⟩
    by_cases cm : [p, q', r] ∈ brd ns ts
    · rw [decide_eq_true cm, Bool.not_true, if_neg (by simp), List.append_nil] at tk
      refine if_fa (by rw [decide_eq_true cm]; rfl) ⟨_, rfl, B, ?_⟩
      rw [tk]
      exact G
    · rw [decide_eq_false cm, Bool.not_false, if_pos rfl] at tk
      obtain ⟨acc, q1, q2, q3⟩ := G.app (ts := [p, q', r]) tp
      refine if_tr (by rw [decide_eq_false cm]; rfl) ⟨_, rfl, .inl ⟨rfl, _, SqL.of q1⟩, _, rfl, O, _, _, rfl, rfl, q1, small1000 (by omega), _, rfl, B.trans But.put, ?_⟩
      rw [tk]
      exact q3
  rintro σ H6 ⟨v16', rfl, B, G⟩
  rw [List.length_map, pl, List.take_length] at G
  have G : Gro H H6 O (lts ns ts) := G
  replace bk := bk.keep G.S
  replace LD := LD.keep G.S
  have LO := G.lsts
  obtain ⟨dx, t, bb, l, r, a1, a2, a3, a4, a5⟩ := id bk.B2
  obtain ⟨os, eo, _⟩ := id LO
  refine ⟨_, rfl, y2, CB, dx, _, _, rfl, a1, cB.cl, cB.nB, bf_barred _ _ _ _, ?_⟩
  refine ⟨_, rfl, O, _, rfl, .inl ⟨SqL.of eo, fun w4 hw4 => ⟨bb, w4, _, rfl, a3.keep (new_same hw4), LO.tup eo hw4, fun H7 S7 => ⟨_, rfl, if_fa (by simp) ?_⟩⟩⟩⟩
  have S67 := (new_same (o := .tup (os.map V.ref)) hw4).trans S7
  replace bk := bk.keep S67
  replace LD := LD.keep S67
  refine ⟨_, rfl, _, rfl, y1, wd, ns, brd ns ts, rfl, bk.B1, bk.W, gb, inL_brd, fun H8 S8 => ⟨_, rfl, iteF ?_⟩⟩
  exact k _ _ ⟨a, h, q, b, x, wd, y1, y2, D, ns, ts, _, _, _, _, _, _, _, _, _, _, rfl, bk.keep S8, LD.keep S8, nD⟩
end
end J

set_option Elab.async false
set_option linter.all false
set_option maxRecDepth 100000
set_option maxHeartbeats 8000000
namespace J
open PySem PySem.Spec PyProof.Rows L2
theorem pick_A3 {ns : List Int} (g : GoodB ns) : ∀ {us M : List (List Int)}, Paired (fun u m => inR ns u m = true) us M → (∀ m ∈ M, m ∈ A3 ns.length ns.length) → ∀ u ∈ us, u ∈ A3 ns.length ns.length
  | _, _, .nil, _ => fun u hu => by cases hu
  | _, _, .cons r t, h => fun u hu => by
    rcases List.mem_cons.mp hu with rfl | hu
    · exact inR_A3 g (h _ List.mem_cons_self) r
    · exact pick_A3 g t (fun m hm => h m (List.mem_cons_of_mem _ hm)) u hu
/-- readings that are picked -/
structure GroA (h q : Addr) (ns : List Int) (M : List (List Int)) (S0 H : Hp) (U : Addr) (i : Nat) : Prop where
  B : But h S0 H
  hh : Hand H h q
  ex : ∃ us, LstsAt H U us ∧ Paired (fun u m => inR ns u m = true) us (M.take i)
def M23 (C CB : Addr) (σ : L2.St) (H : Hp) : Prop := ∃ (a h q b x wd y1 y2 y3 : Addr) (ns : List Int) (ts : List (List Int)) (v5 v6 v7 v8 v9 v10 v11 v13 v16 v17 v18 : Option V), σ = [some (.ref a), some (.ref h), some (.int (ns.length : Nat)), some (.ref b), some (.ref x), v5, v6, v7, v8, v9, v10, v11, some (.ref wd), v13, some (.ref y1), some (.ref y2), v16, v17, v18, some (.ref y3), none, none, none, none, none] ∧ Bk C CB h q b x wd y1 y2 ns ts H ∧
  BookAt C CB H y3 ns (brd ns ts)
section
variable {P : Program} {w : World} {K : PySem.W.Frag} {mg : Str → Option Value} {base : Heap} {f : Addr} {cdv : Value} {A : Around} {outer : List Env} {s : Shared} {H0 : Hp} {E0 : XK}
theorem seg8 {C CB CE CBk fP fR fT fI fE dv : Addr} {fdP fdR fdT fdI fdE : FuncData} (hr : Room 10 (XL P w K mg base f cdv A outer s H0 E0).A) (nt : mg "tuple" = none)
    (GP : Cal P w K mg base CX0 3 "_law_pick" fP fdP ["_law_hand_here", "_law_things"] spPick) (GR : Cal P w K mg base CX0 1 "_law_readings" fR fdR ["_law_backs_here", "_law_p", "_law_q", "_law_r"] spLR)
    (mT : mg "Ties" = some (.ref C)) (MT : Mk K C fT) (FT : FnOk P w K mg base (L2.CX P w) 4 fT fdT ["self", "backs"] (spTies C CBk)) (bT : Binds K fdT ["self", "backs"] [])
    (mB : mg "Book" = some (.ref CB)) (MI : Mk K CB fI) (FI : FnOk P w K mg base (L2.CX P w) 6 fI fdI ["self", "ties", "barred"] (spBI K C CB CE)) (bI : Binds K fdI ["self", "ties", "barred"] []) (bI0 : Binds K fdI ["self", "ties", "barred"] [.ref dv]) (kt : KT K dv)
    (FE : FnOk P w K mg base CX0 2 fE fdE ["self", "other"] (spBEq C CB)) (aE : PySem.W.findIn K (.ref CB) "__eq__" = some (some (.ref fE))) (iE : PySem.W.isFn K (.ref fE) = true) (bE : Binds K fdE ["self", "other"] []) (nfT : PySem.W.notFirst K CB (.type "tuple") = true) (nfI : PySem.W.notFirst K CB (.type "int") = true) :
    SegT (XL P w K mg base f cdv A outer s H0 E0) (cut 21 2) (M21 C CB) (M23 C CB) := by
  intro rest u hu
  have hr7 : Room 7 _ := hr.mono (by decide)
  have hdv : Vals [V.ref dv] [Value.ref dv] := .cons rfl .nil
  have hr5 : Room 5 _ := hr.mono (by decide)
  have hr2 : Room 2 _ := hr.mono (by decide)
  refine ⟨_, (pss_cons 
  (ps_set (i := 19) sc_law.nd rfl (Or.inl rfl) (pe_make MI FI hr7 rfl mB bI .nil passL (pa_cons (pe_make MT FT hr5 rfl mT bT .nil passL (pa_cons (pe_callTy (T := "tuple") (r := rTup K) call_tuple_of (by rfl) nt (by decide +kernel) (pa_cons (pv 3) pa_nil)) pa_nil)) (pa_cons (pe_lc (own := [("_law_three", 16)]) (g := gName 16) (by rfl) sc_law.nd (pi_list (pv 17)) (blkOk_by (own := [("_law_three", 16)]) (N := Nlaw) (sc := defScope s_law) (by decide +kernel)) (fun _ _ _ _ _ => pg_name (i := 16) sc_law.nd rfl (Or.inl rfl)) (fun _ _ _ _ _ => pts_nil) (fun _ _ _ _ _ => (pcal GP hr pass0 (pa_cons (pv 1) (pa_cons (pcal GR hr pass0 (pa_cons (pv 3) (pa_cons (pe_ix (r := rIxT K) ix_tup (pv 16) pe_int (fun _ _ => rfl)) (pa_cons (pe_ix (r := rIxT K) ix_tup (pv 16) pe_int (fun _ _ => rfl)) (pa_cons (pe_ix (r := rIxT K) ix_tup (pv 16) pe_int (fun _ _ => rfl)) pa_nil))))) pa_nil))))) pa_nil)))) (pss_cons 
  (ps_if (PW.pt (pw_or (pt_not (pt_cmpR (op_eqOwn FE aE iE bE pass0 hr2 nfT) (pv 14) (pv 19) (nomark _))) (pw_or (pt_cmpR (op_eqOwnI FE aE iE bE pass0 hr2 nfI) (pv 14) pe_int (nomark _)) (pw_or (pt_cmpR (op_eqOwn FE aE iE bE pass0 hr2 nfT) (pv 14) (pv 15) (nomark _)) (pw_or1 (pt_not (pt_cmpR (op_eqOwn FE aE iE bE pass0 hr2 nfT) (pe_make MI FI hr7 rfl mB bI0 hdv passL (pa_cons (pv 4) pa_nil)) (pe_make MI FI hr7 rfl mB bI .nil passL (pa_cons (pv 4) (pa_cons (pe_tup pa_nil) pa_nil))) (nomark _)))))))) (pss_one 
    (ps_ret pe_bl)) pss_nil) hu)), fun D0 σ H m k => ?_⟩
  obtain ⟨a, h, q, b, x, wd, y1, y2, D, ns, ts, v5, v6, v7, v8, v9, v10, v11, v13, v16, v18, rfl, bk, LD, nD⟩ := m
  have gb := bk.c.gb
  have l64 := A3_le ns.length gb.hi
  refine ⟨_, rfl, b, _, rfl, .inl ⟨SqL.of bk.c.eb, fun wt hwt => mk_ties (s := .tup (ns.map V.int)) ⟨wt, rfl, upd_same⟩ gb rfl rfl fun H2 x2 S2 nx2 T2 => ⟨rfl, ?_⟩⟩⟩
  have S12 := (new_same (o := .tup (ns.map V.int)) hwt).trans S2
  replace bk := bk.keep S12
  replace LD := LD.keep S12
  clear S12 S2 hwt nx2
  have again := fun (us : List (List Int)) (p : Paired (fun u m => inR ns u m = true) us ((brd ns ts).filter (isL ns))) => brd_again gb bk.tA p
  have MA : ∀ m ∈ (brd ns ts).filter (isL ns), m ∈ A3 ns.length ns.length := fun m hm => brd_A3 m (List.mem_filter.mp hm).1
  have lM : ((brd ns ts).filter (isL ns)).length ≤ 64 := Nat.le_trans (List.length_filter_le _ _) (Nat.le_trans (List.length_filter_le _ _) l64)
  generalize (brd ns ts).filter (isL ns) = M at LD again MA lM
  obtain ⟨ps, eD, pl, pj⟩ := id LD
  obtain ⟨us0, eh⟩ := bk.c.hh.at_
  refine ⟨_, rfl, D, rfl, ⟨_, SqL.of eD⟩, fun U hU => ?_⟩
  obtain ⟨nU, nUq⟩ := bk.c.hh.same_h' hU
  refine lc_list (K := K) (a := D) (xs := ps.map V.ref) (fun i H' => GroA h q ns M H2 H' U i) ⟨But.new hU, bk.c.hh.new hU, [], ⟨[], upd_same, rfl, fun j a ts e => by simp at e⟩, .nil⟩ (fun i H' _ G => SqL.of (G.B _ _ nD eD)) ?_ ?_
  · rintro i y H3 hy ⟨B3, h3, us, LU, pu⟩
    have hi : i < ps.length := by
      have := (List.getElem?_eq_some_iff.mp hy).1
      rwa [List.length_map] at this
    have ep := List.getElem?_eq_getElem hi
    have et := List.getElem?_eq_getElem (l := M) (i := i) (by omega)
    obtain rfl : V.ref ps[i] = y := by
      rw [List.getElem?_map, ep] at hy
      exact Option.some.inj hy
    obtain ⟨p, q', r, e3, ip, iq, ir⟩ := A3_in (MA _ (List.mem_of_getElem? et)) rfl
    rw [e3] at et
    obtain ⟨p, rfl, hp⟩ := inT_nat ip
    obtain ⟨q', rfl, hq⟩ := inT_nat iq
    obtain ⟨r, rfl, hr'⟩ := inT_nat ir
    have tp := tup_but eh B3 (pj i _ _ ep et)
    have c3 := bk.c.but B3 h3
    refine ⟨rfl, yesT ?_⟩
    refine ⟨_, rfl, _, rfl, _, rfl, ps[i], _, _, _, rfl, rfl, SqT.of tp, at_of (j := 0) (v := .int p) rfl rfl, _, rfl, ps[i], _, _, _, rfl, rfl, SqT.of tp, at_of (j := 1) (v := .int q') rfl rfl, _, rfl, ps[i], _, _, _, rfl, rfl, SqT.of tp, at_of (j := 2) (v := .int r) rfl rfl, ?_⟩
    refine ⟨b, ns, p, q', r, rfl, c3.eb, gb, hp, hq, hr', fun H4 z S4 nz LZ => ?_⟩
    obtain ⟨zs, ez, zl, zj⟩ := id LZ
    have c4 := c3.keep S4
    have zl6 : zs.length = 6 := by rw [zl]; rfl
    refine ⟨h, q, z, _, rfl, c4.hh, hand_free c3.hh nz, ez, (by rw [List.length_map]; omega), (by rw [List.length_map]; omega), fun H5 y my B5 h5 => ?_⟩
    obtain ⟨d, hd, rfl⟩ := List.mem_map.mp my
    obtain ⟨j, hj, ed⟩ := List.getElem_of_mem hd
    have edj : zs[j]? = some d := by rw [List.getElem?_eq_getElem hj, ed]
    have eu := List.getElem?_eq_getElem (l := six ns p q' r) (i := j) (by rw [← zl]; exact hj)
    obtain ⟨us4, eh4⟩ := c4.hh.at_
    have td := tup_but eh4 B5 (zj j d _ edj eu)
    have um := List.mem_of_getElem? eu
    generalize (six ns p q' r)[j]'_ = u6 at eu td um
    have LU5 := (LU.keep S4).but eh4 nU B5
    obtain ⟨qs, e1, e2, _⟩ := id LU5
    have lu := Paired.length pu
    rw [List.length_take] at lu
    refine ⟨_, e1, small1000 (by rw [List.length_map]; omega), (B3.trans ((But.same S4).trans B5)).put2 hU, h5.put nU.symm nUq.symm, us ++ [u6], LU5.push e1 td, ?_⟩
    rw [List.take_add_one, et]
    exact paired_app pu (decide_eq_true um)
  rintro H3 ⟨B3, h3, us, LU, pu⟩
  rw [List.length_map, pl, List.take_length] at pu
  replace bk := bk.but B3 h3
  replace T2 := T2.but eh B3
  refine mk_book (LU.arg T2 gb (pick_A3 gb pu MA) fun H4 y3 S4 n4 B4 => ⟨rfl, ?_⟩)
  rw [again us pu] at B4
  replace bk := bk.keep S4
  clear S4 LU pu T2 eh
  -- the comparisons
  obtain ⟨dx1, t1, b1, l1, r1, e1, _⟩ := id bk.B1
  obtain ⟨dx2, t2, b2, l2, r2, e2, _⟩ := id bk.B2
  obtain ⟨dx3, t3, b3, l3, r3, e3, _⟩ := id B4
  refine ⟨_, rfl, _, rfl, y1, y3, dx1, _, rfl, rfl, e1, .inl ⟨dx3, _, e3⟩, y1, .ref y3, ns, brd ns ts, rfl, bk.B1, .inl ⟨y3, ns, brd ns ts, rfl, B4, ⟨_, rfl⟩, _, rfl, if_fa (by simp) ?_⟩⟩
  refine ⟨_, rfl, y1, 5, dx1, _, rfl, rfl, e1, y1, .int 5, ns, brd ns ts, rfl, bk.B1, .inr ⟨⟨5, rfl⟩, ⟨_, rfl⟩, _, rfl, iteF ?_⟩⟩
  refine ⟨_, rfl, _, rfl, y1, y2, dx1, _, rfl, rfl, e1, .inl ⟨dx2, _, e2⟩, y1, .ref y2, ns, brd ns ts, rfl, bk.B1, .inl ⟨y2, ns, lts ns ts, rfl, bk.B2, ⟨_, rfl⟩, _, rfl, if_fa (decide_eq_false fun z => brd_ne_lts (by have := bk.c.n2; omega) z.2) ?_⟩⟩
  refine ⟨_, rfl, mk_book0 bk.c.T gb kt fun H5 y5 S5 n5 B5 => ⟨rfl, ?_⟩⟩
  replace bk := bk.keep S5
  replace B4 := B4.keep S5
  refine ⟨_, rfl, (by show 0 ≤ sizeLine; decide), fun p6 hp6 => ?_⟩
  have S6 : Same H5 (upd H5 p6 (.tup [])) := new_same hp6
  refine mk_book (ArgB.good (bk.c.T.keep S6) gb (s := .tup []) (ss := []) ⟨p6, rfl, upd_same⟩ rfl .nil (fun s hs => by cases hs) fun H7 y7 S7 n7 B7 => ⟨rfl, ?_⟩)
  have B7 : BookAt C CB H7 y7 ns (brd ns []) := B7
  rw [brd_nil] at B7
  have S57 := S6.trans S7
  replace B5 := B5.keep S57
  obtain ⟨dx5, t5, b5, l5, r5, e5, _⟩ := id B5
  obtain ⟨dx7, t7, b7, l7, r7, e7, _⟩ := id B7
  refine ⟨y5, y7, dx5, _, rfl, rfl, e5, .inl ⟨dx7, _, e7⟩, y5, .ref y7, ns, [], rfl, B5, .inl ⟨y7, ns, [], rfl, B7, ⟨_, rfl⟩, _, rfl, if_fa (by simp) ?_⟩⟩
  exact k _ _ ⟨a, h, q, b, x, wd, y1, y2, y3, ns, ts, _, _, _, _, _, _, _, _, _, _, _, rfl, bk.keep S57, B4.keep S57⟩
end
end J

set_option Elab.async false
set_option linter.all false
set_option maxRecDepth 100000
set_option maxHeartbeats 8000000
namespace J
open PySem PySem.Spec PyProof.Rows L2
theorem good_c {ns : List Int} (h : dueS (ns.map V.int) = none) : GoodB ns := by
  obtain ⟨ms, e, g⟩ := good_of h
  rw [map_int_inj e]
  exact g
theorem good_1 : GoodB [0, 1] := good_c (by decide +kernel)
theorem good_2 : GoodB [1, 0] := good_c (by decide +kernel)
theorem good_3 : GoodB [0, 1, 2] := good_c (by decide +kernel)
theorem good_4 : GoodB [0, 2, 1] := good_c (by decide +kernel)
theorem good_5 : GoodB [0, 1, 3, 2] := good_c (by decide +kernel)
def M25 (C CB : Addr) (σ : L2.St) (H : Hp) : Prop := ∃ (a h q b x wd y1 y2 y3 : Addr) (ns : List Int) (ts : List (List Int)) (v5 v6 v7 v8 v9 v10 v11 v13 v16 v17 v18 v20 : Option V), σ = [some (.ref a), some (.ref h), some (.int (ns.length : Nat)), some (.ref b), some (.ref x), v5, v6, v7, v8, v9, v10, v11, some (.ref wd), v13, some (.ref y1), some (.ref y2), v16, v17, v18, some (.ref y3), v20, none, none, none, none] ∧ Bk C CB h q b x wd y1 y2 ns ts H ∧
  BookAt C CB H y3 ns (brd ns ts)
section
variable {P : Program} {w : World} {K : PySem.W.Frag} {mg : Str → Option Value} {base : Heap} {f : Addr} {cdv : Value} {A : Around} {outer : List Env} {s : Shared} {H0 : Hp} {E0 : XK}
theorem seg9 {C CB CE CBk fP fT fI fE dv : Addr} {fdP fdT fdI fdE : FuncData} (hr : Room 10 (XL P w K mg base f cdv A outer s H0 E0).A) (nli : mg "list" = none)
    (GP : Cal P w K mg base CX0 3 "_law_pick" fP fdP ["_law_hand_here", "_law_things"] spPick)
    (mT : mg "Ties" = some (.ref C)) (MT : Mk K C fT) (FT : FnOk P w K mg base (L2.CX P w) 4 fT fdT ["self", "backs"] (spTies C CBk)) (bT : Binds K fdT ["self", "backs"] [])
    (mB : mg "Book" = some (.ref CB)) (MI : Mk K CB fI) (FI : FnOk P w K mg base (L2.CX P w) 6 fI fdI ["self", "ties", "barred"] (spBI K C CB CE)) (bI0 : Binds K fdI ["self", "ties", "barred"] [.ref dv]) (kt : KT K dv)
    (FE : FnOk P w K mg base CX0 2 fE fdE ["self", "other"] (spBEq C CB)) (aE : PySem.W.findIn K (.ref CB) "__eq__" = some (some (.ref fE))) (iE : PySem.W.isFn K (.ref fE) = true) (bE : Binds K fdE ["self", "other"] []) (nfT : PySem.W.notFirst K CB (.type "tuple") = true) :
    SegT (XL P w K mg base f cdv A outer s H0 E0) (cut 23 2) (M23 C CB) (M25 C CB) := by
  intro rest u hu
  have hr7 : Room 7 _ := hr.mono (by decide)
  have hdv : Vals [V.ref dv] [Value.ref dv] := .cons rfl .nil
  have hr5 : Room 5 _ := hr.mono (by decide)
  have hr2 : Room 2 _ := hr.mono (by decide)
  refine ⟨_, (pss_cons 
  (ps_set (i := 20) sc_law.nd rfl (Or.inl rfl) (pcal GP hr pass0 (pa_cons (pv 1) (pa_cons (pe_lst (pa_cons (pe_lst (pa_cons pe_int (pa_cons pe_int pa_nil))) (pa_cons (pe_lst (pa_cons pe_int (pa_cons pe_int pa_nil))) (pa_cons (pe_lst (pa_cons pe_int (pa_cons pe_int (pa_cons pe_int pa_nil)))) (pa_cons (pe_lst (pa_cons pe_int (pa_cons pe_int (pa_cons pe_int pa_nil)))) (pa_cons (pe_lst (pa_cons pe_int (pa_cons pe_int (pa_cons pe_int (pa_cons pe_int pa_nil))))) pa_nil)))))) pa_nil)))) (pss_cons 
  (ps_if (pt_cmpR op_ne (pe_cmpR (op_eqOwn FE aE iE bE pass0 hr2 nfT) (pe_make MI FI hr7 rfl mB bI0 hdv passL (pa_cons (pv 4) pa_nil)) (pe_make MI FI hr7 rfl mB bI0 hdv passL (pa_cons (pe_make MT FT hr5 rfl mT bT .nil passL (pa_cons (pv 20) pa_nil)) pa_nil)) (nomark _)) (pe_cmpR (op_eqD hr.units) (pe_callTy (T := "list") (r := rLst K) call_list_of (by rfl) nli (by decide +kernel) (pa_cons (pv 3) pa_nil)) (pv 20) (nomark _)) (nomark _)) (pss_one 
    (ps_ret pe_bl)) pss_nil) hu)), fun D0 σ H m k => ?_⟩
  obtain ⟨a, h, q, b, x, wd, y1, y2, y3, ns, ts, v5, v6, v7, v8, v9, v10, v11, v13, v16, v17, v18, rfl, bk, B3⟩ := m
  have gb := bk.c.gb
  have stepL : ∀ {H : Hp} (ms : List Int) (z : Addr), H z = none → Same H (upd H z (.lst (ms.map V.int))) ∧ (upd H z (.lst (ms.map V.int))) z = some (.lst (ms.map V.int)) := fun ms z hz => ⟨new_same hz, upd_same⟩
  refine ⟨_, rfl, (by show 2 ≤ sizeLine; decide), fun l1 n1 => ?_⟩
  obtain ⟨S1, e1⟩ := stepL [0, 1] l1 n1
  refine ⟨(by show 2 ≤ sizeLine; decide), fun l2 n2 => ?_⟩
  obtain ⟨S2, e2⟩ := stepL [1, 0] l2 n2
  refine ⟨(by show 3 ≤ sizeLine; decide), fun l3 n3 => ?_⟩
  obtain ⟨S3, e3⟩ := stepL [0, 1, 2] l3 n3
  refine ⟨(by show 3 ≤ sizeLine; decide), fun l4 n4 => ?_⟩
  obtain ⟨S4, e4⟩ := stepL [0, 2, 1] l4 n4
  refine ⟨(by show 4 ≤ sizeLine; decide), fun l5 n5 => ?_⟩
  obtain ⟨S5, e5⟩ := stepL [0, 1, 3, 2] l5 n5
  refine ⟨(by show 5 ≤ sizeLine; decide), fun l n => ?_⟩
  have S6 := new_same (o := .lst [.ref l1, .ref l2, .ref l3, .ref l4, .ref l5]) n
  have e5 := S6 _ _ e5
  have e4 := S6 _ _ (S5 _ _ e4)
  have e3 := S6 _ _ (S5 _ _ (S4 _ _ e3))
  have e2 := S6 _ _ (S5 _ _ (S4 _ _ (S3 _ _ e2)))
  have e1 := S6 _ _ (S5 _ _ (S4 _ _ (S3 _ _ (S2 _ _ e1))))
  have S := ((((S1.trans S2).trans S3).trans S4).trans S5).trans S6
  have nl := hand_free bk.c.hh (same_free ((((S1.trans S2).trans S3).trans S4).trans S5) n)
  replace bk := bk.keep S
  replace B3 := B3.keep S
  refine ⟨h, q, l, _, rfl, bk.c.hh, nl, upd_same, (by show 0 < 5; decide), (by show 5 ≤ 1000; decide), fun H7 y my B7 h7 => ?_⟩
  obtain ⟨us, eh⟩ := bk.c.hh.at_
  have off : ∀ (z : Addr) (ms : List Int), GoodB ms → z ≠ h → True := fun _ _ _ _ => trivial
  obtain ⟨z, ms, rfl, ez, gm⟩ : ∃ (z : Addr) (ms : List Int), y = .ref z ∧ H7 z = some (.lst (ms.map V.int)) ∧ GoodB ms := by
    have nh : ∀ (z : Addr) (ms : List Int) (H' : Hp), Hand H' h q → H' z = some (.lst (ms.map V.int)) → 0 < ms.length → z ≠ h := fun z ms H' hh e l q' => by
      obtain ⟨cs, i, r, t, e1, _⟩ := hh
      rw [q', e1] at e
      have e := HO.lst.inj (Option.some.inj e)
      cases ms with
      | nil => cases l
      | cons m ms =>
        rw [List.map_cons] at e
        injection e with e _
        cases e
    simp only [List.mem_cons, List.not_mem_nil, or_false] at my
    rcases my with rfl | rfl | rfl | rfl | rfl
    · exact ⟨l1, [0, 1], rfl, B7 _ _ (nh _ _ _ bk.c.hh e1 (by decide)) e1, good_1⟩
    · exact ⟨l2, [1, 0], rfl, B7 _ _ (nh _ _ _ bk.c.hh e2 (by decide)) e2, good_2⟩
    · exact ⟨l3, [0, 1, 2], rfl, B7 _ _ (nh _ _ _ bk.c.hh e3 (by decide)) e3, good_3⟩
    · exact ⟨l4, [0, 2, 1], rfl, B7 _ _ (nh _ _ _ bk.c.hh e4 (by decide)) e4, good_4⟩
    · exact ⟨l5, [0, 1, 3, 2], rfl, B7 _ _ (nh _ _ _ bk.c.hh e5 (by decide)) e5, good_5⟩
  replace bk := bk.but B7 h7
  replace B3 := B3.but eh B7
  clear B7 eh my nl S S6 e1 e2 e3 e4 e5 S1 S2 S3 S4 S5
  refine ⟨_, rfl, mk_book0 bk.c.T gb kt fun H8 y5 S8 n8 B5 => ⟨rfl, ?_⟩⟩
  refine ⟨_, rfl, mk_ties (s := .lst (ms.map V.int)) ⟨z, rfl, S8 _ _ ez⟩ gm rfl rfl fun H9 x9 S9 nx9 T9 => ⟨rfl, mk_book0 T9 gm kt fun H10 y7 S10 n10 B7 => ⟨rfl, ?_⟩⟩⟩
  have S810 := S9.trans S10
  replace B5 := B5.keep S810
  have S := S8.trans S810
  replace bk := bk.keep S
  replace B3 := B3.keep S
  replace ez := S _ _ ez
  obtain ⟨dx5, t5, b5, l5', r5, e5, _⟩ := id B5
  obtain ⟨dx7, t7, b7, l7, r7, e7, _⟩ := id B7
  refine ⟨y5, y7, dx5, _, rfl, rfl, e5, .inl ⟨dx7, _, e7⟩, y5, .ref y7, ns, [], rfl, B5, .inl ⟨y7, ms, [], rfl, B7, ⟨_, rfl⟩, ?_⟩⟩
  refine ⟨_, rfl, b, _, rfl, .inl (SqL.of bk.c.eb), fun w hw => ⟨_, rfl, .list (ns.map PyData.int), .list (ms.map PyData.int), .lst (SqL.of upd_same) (dp_ints _), .lst (SqL.of (new_same hw _ _ ez)) (dp_ints _), shaped_li _, shaped_li _, rfl, _, rfl, if_fa ?_ ?_⟩⟩
  · rw [eqv_li]
    by_cases e : ns = ms
    · simp [e]
    · simp [e]
  · exact k _ _ ⟨a, h, q, b, x, wd, y1, y2, y3, ns, ts, _, _, _, _, _, _, _, _, _, _, _, _, rfl, bk.keep (new_same hw), B3.keep (new_same hw)⟩
end
end J

set_option Elab.async false
set_option linter.all false
set_option maxRecDepth 100000
set_option maxHeartbeats 8000000
namespace J
open PySem PySem.Spec PyProof.Rows L2
section
variable {P : Program} {w : World} {K : PySem.W.Frag} {mg : Str → Option Value} {base : Heap} {f : Addr} {cdv : Value} {A : Around} {outer : List Env} {s : Shared} {H0 : Hp} {E0 : XK}
theorem seg10 {C CB fP fD fN fS fT : Addr} {fdP fdD fdN fdS fdT : FuncData} (hr : Room 10 (XL P w K mg base f cdv A outer s H0 E0).A) (nr : mg "range" = none)
    (GP : Cal P w K mg base CX0 3 "_law_pick" fP fdP ["_law_hand_here", "_law_things"] spPick) (GD : Cal P w K mg base CX0 2 "_law_draw" fD fdD ["_law_hand_here", "_law_many"] spDraw)
    (GN : Cal P w K mg base CX0 5 "_law_no_tie" fN fdN ["_law_book", "_law_odd", "_law_tie", "_law_way"] (spNoT C CB)) (GS : Cal P w K mg base CX0 4 "_law_same_barred" fS fdS ["_law_book", "_law_world"] (spLS C CB)) (GT : Cal P w K mg base CX0 5 "_law_tells" fT fdT ["_law_book", "_law_world"] (spLS C CB)) :
    EndT (XL P w K mg base f cdv A outer s H0 E0) (cut 25 3) (M25 C CB) := by
  refine ⟨_, (pss_cons 
  (ps_set (i := 21) sc_law.nd rfl (Or.inl rfl) (pcal GP hr pass0 (pa_cons (pv 1) (pa_cons (pe_lst (pa_cons (pv 2) (pa_cons (pe_un un_neg pe_int) (pa_cons pe_bl (pa_cons pe_non (pa_cons pe_str (pa_cons (pe_op op_add (pv 2) (pcal GD hr pass0 (pa_cons (pv 1) (pa_cons (pe_op op_pow pe_int pe_int) pa_nil)))) pa_nil))))))) pa_nil)))) (pss_cons 
  (ps_for PassesOwn.never rfl (pi_range1 (by rfl) nr (pa_cons pe_int pa_nil)) (pg_name (i := 22) sc_law.nd rfl (Or.inl rfl)) (pss_one 
    (ps_if (pt_not (pt_val (pcal GN hr pass0 (pa_cons (pv 14) (pa_cons (pv 21) (pa_cons (pcal GD hr pass0 (pa_cons (pv 1) (pa_cons (pv 2) pa_nil))) (pa_cons (pv 22) pa_nil))))))) (pss_one 
      (ps_ret pe_bl)) pss_nil))) (pss_one 
  (ps_ret (pe_and (pcal GS hr pass0 (pa_cons (pv 14) (pa_cons (pv 12) pa_nil))) (pe_one (pcal GT hr pass0 (pa_cons (pv 19) (pa_cons (pv 12) pa_nil))))))))), fun D0 σ H m k => ?_⟩
  obtain ⟨a, h, q, b, x, wd, y1, y2, y3, ns, ts, v5, v6, v7, v8, v9, v10, v11, v13, v16, v17, v18, v20, rfl, bk, B3⟩ := m
  have gb := bk.c.gb
  have hi4 := gb.hi
  have lo2 := gb.lo
  have l64 : (brd ns ts).length ≤ 64 := Nat.le_trans (List.length_filter_le _ _) (A3_le ns.length gb.hi)
  refine ⟨_, rfl, _, rfl, _, rfl, _, rfl, _, rfl, _, _, rfl, rfl, ⟨by decide, by decide, by decide⟩, h, q, _, rfl, by decide, by decide, bk.c.hh, fun z H1 z0 z1 b1 h1 => ?_⟩
  obtain ⟨us, eh⟩ := bk.c.hh.at_
  replace bk := bk.but b1 h1
  replace B3 := B3.but eh b1
  refine ⟨_, _, rfl, rfl, (by show 6 ≤ sizeLine; decide), fun l hl => ?_⟩
  have nlh := hand_free h1 hl
  have S2 := new_same (o := .lst [.int (ns.length : Nat), .int (-1), .bl true, .non, .str (Str.ofString "0"), .int ((ns.length : Nat) + z)]) hl
  replace bk := bk.keep S2
  replace B3 := B3.keep S2
  refine ⟨h, q, l, _, rfl, bk.c.hh, nlh, upd_same, (by show 0 < 6; decide), (by show 6 ≤ 1000; decide), fun H3 o mo b3 h3 => ?_⟩
  have it : isSc o = true ∧ Odd ns.length o := by
    simp only [List.mem_cons, List.not_mem_nil, or_false] at mo
    rcases mo with rfl | rfl | rfl | rfl | rfl | rfl
    · exact ⟨rfl, odd_int (.inr (Int.le_refl _))⟩
    · exact ⟨rfl, odd_int (.inl (by decide))⟩
    · exact ⟨rfl, odd_sc fun n e => by cases e⟩
    · exact ⟨rfl, odd_sc fun n e => by cases e⟩
    · exact ⟨rfl, odd_sc fun n e => by cases e⟩
    · exact ⟨rfl, odd_int (.inr (by omega))⟩
  obtain ⟨so, oo⟩ := it
  have no := oo ns rfl
  obtain ⟨us2, eh2⟩ := bk.c.hh.at_
  replace bk := bk.but b3 h3
  replace B3 := B3.but eh2 b3
  clear mo b1 b3 h1 S2 eh eh2
  refine ⟨5, rfl, by decide, by decide, for_range (lo := 0) (n := 5) (fun i σ H' => ∃ v22 : Option V, σ = [some (.ref a), some (.ref h), some (.int (ns.length : Nat)), some (.ref b), some (.ref x), v5, v6, v7, v8, v9, v10, v11, some (.ref wd), v13, some (.ref y1), some (.ref y2), v16, v17, v18, some (.ref y3), v20, some o, v22, none, none] ∧ Bk C CB h q b x wd y1 y2 ns ts H' ∧ BookAt C CB H' y3 ns (brd ns ts))
    ⟨none, rfl, bk, B3⟩ ?_ ?_⟩
  · rintro i σ H4 hi ⟨v22, rfl, bk, B3⟩
    refine ⟨_, rfl, _, rfl, _, rfl, _, rfl, h, q, _, rfl, by omega, by omega, bk.c.hh, fun t H5 t0 t1 b5 h5 => ?_⟩
    obtain ⟨us, eh⟩ := bk.c.hh.at_
    replace bk := bk.but b5 h5
    replace B3 := B3.but eh b5
    obtain ⟨t, rfl⟩ : ∃ n : Nat, t = (n : Nat) := ⟨t.toNat, by omega⟩
    exact ⟨_, rfl, y1, ns, brd ns ts, o, t, _, rfl, bk.B1, gb, brd_A3, l64, so, no, by omega, fun H6 S6 => ⟨_, rfl, iteF ⟨_, rfl, bk.keep S6, B3.keep S6⟩⟩⟩
  · rintro σ H4 ⟨v22, rfl, bk, B3⟩
    refine ⟨_, rfl, _, rfl, y1, wd, ns, brd ns ts, rfl, bk.B1, bk.W, gb, inL_brd, fun H5 S5 => ⟨_, rfl, if_tr rfl ?_⟩⟩
    exact ⟨_, rfl, _, rfl, y3, wd, ns, brd ns ts, rfl, B3.keep S5, bk.W.keep S5, gb, inL_brd, fun H6 S6 => k _⟩
end
end J

set_option Elab.async false
set_option linter.all false
set_option maxRecDepth 100000
set_option maxHeartbeats 8000000
namespace J
open PySem PySem.Spec PyProof.Rows L2
section
variable {P : Program} {w : World} {K : PySem.W.Frag} {mg : Str → Option Value} {base : Heap}
theorem ok_law {f C CB CE CBk fH fP fK fT fD fE fM fL fR fLe fS fI pL gL fC fSB fPl fBa fTe fRd fEq fN dv : Addr} {fdH fdP fdK fdT fdD fdE fdR fdLe fdS fdI fdL fdC fdSB fdPl fdBa fdTe fdRd fdEq fdN fd : FuncData} (F : Fun K "law" "law" s_law f fd) (nr : mg "range" = none) (ne : mg "enumerate" = none) (nis : mg "isinstance" = none) (nli : mg "list" = none) (nt : mg "tuple" = none)
    (GH : Cal P w K mg base CX0 1 "_law_hand" fH fdH ["_law_script"] (spHand K)) (GP : Cal P w K mg base CX0 3 "_law_pick" fP fdP ["_law_hand_here", "_law_things"] spPick) (GK : Cal P w K mg base CX0 3 "_law_backs" fK fdK ["_law_hand_here", "_law_many"] spBacks)
    (mT : mg "Ties" = some (.ref C)) (MT : Mk K C fT) (FT : FnOk P w K mg base (L2.CX P w) 4 fT fdT ["self", "backs"] (spTies C CBk)) (bT : Binds K fdT ["self", "backs"] [])
    (GD : Cal P w K mg base CX0 2 "_law_draw" fD fdD ["_law_hand_here", "_law_many"] spDraw) (GE : Cal P w K mg base CX0 4 "_law_entry" fE fdE ["_law_hand_here", "_law_many"] spEnt)
    (mM : mg "_law_made" = some (.ref fM)) (kM : PySem.W.keepIn K (.ref fM) = true) (mL : mg "_law_letting" = some (.ref fL)) (kL : PySem.W.keepIn K (.ref fL) = true)
    (GR : Cal P w K mg base CX0 10 "_law_refusal" fR fdR ["_law_call", "_law_ties", "_law_things"] (spRefu C fM fL)) (GL : Cal P w K mg base CX0 2 "_law_let" fLe fdLe ["_law_backs_here", "_law_classes_here"] spLL)
    (GS : Cal P w K mg base CX0 3 "_law_shape" fS fdS ["_law_hand_here", "_law_row"] spShape2) (mB : mg "Book" = some (.ref CB)) (MI : Mk K CB fI) (FI : FnOk P w K mg base (L2.CX P w) 6 fI fdI ["self", "ties", "barred"] (spBI K C CB CE)) (bI : Binds K fdI ["self", "ties", "barred"] []) (bI0 : Binds K fdI ["self", "ties", "barred"] [.ref dv]) (kt : KT K dv)
    (rB : ClX.CRead K CB (.type "type")) (cS : CSta K CB (.type "type") "letting" pL gL) (FL : FnOk P w K mg base (L2.CX P w) 8 gL fdL ["ties", "threes"] (spLet C CB CE)) (bL : Binds K fdL ["ties", "threes"] []) (cB : BoC K CB)
    (GC : Cal P w K mg base CX0 2 "_law_classes" fC fdC ["_law_backs_here"] spLC) (GSB : Cal P w K mg base CX0 4 "_law_same_barred" fSB fdSB ["_law_book", "_law_world"] (spLS C CB)) (GP2 : Cal P w K mg base CX0 3 "_law_plain" fPl fdPl ["_law_answer", "_law_due"] spP2)
    (GB : Cal P w K mg base CX0 1 "_law_barred" fBa fdBa ["_law_world"] spLB) (GT : Cal P w K mg base CX0 5 "_law_tells" fTe fdTe ["_law_book", "_law_world"] (spLS C CB)) (GRd : Cal P w K mg base CX0 1 "_law_readings" fRd fdRd ["_law_backs_here", "_law_p", "_law_q", "_law_r"] spLR)
    (FE : FnOk P w K mg base CX0 2 fEq fdEq ["self", "other"] (spBEq C CB)) (aE : PySem.W.findIn K (.ref CB) "__eq__" = some (some (.ref fEq))) (iE : PySem.W.isFn K (.ref fEq) = true) (bE : Binds K fdEq ["self", "other"] []) (nfT : PySem.W.notFirst K CB (.type "tuple") = true) (nfI : PySem.W.notFirst K CB (.type "int") = true)
    (GN : Cal P w K mg base CX0 5 "_law_no_tie" fN fdN ["_law_book", "_law_odd", "_law_tie", "_law_way"] (spNoT C CB)) : FnOk P w K mg base CX0 11 f fd ["_law_script"] (spLaw K) := by
  refine F.ok sc_law (fun vs H Q E h => ?_) (fun cdv A outer s H vs Q E hr h => ?_)
  · obtain ⟨a, ns, rfl, _⟩ := h
    rfl
  · obtain ⟨a, ns, rfl, hS, hn, k⟩ := h
    have hr : Room 10 (XL P w K mg base f cdv A outer s H E).A := hr
    have e10 := seg10 (C := C) (CB := CB) hr nr GP GD GN GSB GT
    have e9 := (seg9 hr nli GP mT MT FT bT mB MI FI bI0 kt FE aE iE bE nfT).end e10
    have e8 := (seg8 hr nt GP GRd mT MT FT bT mB MI FI bI bI0 kt FE aE iE bE nfT nfI).end e9
    have e7 := (seg7 hr nt cB GC GL GB GT GP2).end e8
    have e6 := (seg6 hr nt cB GC GSB GP2).end e7
    have e5 := (seg5 hr nis nli nt GS mB MI FI bI rB cS FL bL).end e6
    have e4 := (seg4 hr GL).end e5
    have e3 := (seg3 hr mM kM mL kL GR).end e4
    have e2 := (seg2 hr nr ne GP GD GE).end e3
    have e1 := (seg1 hr GH GP GK mT MT FT bT).end e2
    obtain ⟨t, pt, ht⟩ := e1
    exact ⟨t, pt, ht _ _ _ ⟨a, ns, rfl, hS, hn⟩ fun H' => k H'⟩
end
end J

set_option Elab.async false
set_option linter.all false
set_option maxRecDepth 100000
set_option maxHeartbeats 8000000
namespace J
open PySem L2
theorem kit_me {K : PySem.W.Frag} {S : Addr} : PySem.W.kitOne K (.ref S) (.ref S) = some true := by
  unfold PySem.W.kitOne
  rw [if_pos (by simp)]
theorem kit_no {K : PySem.W.Frag} {S : Addr} {T : String} (h2 : PySem.W.isClsIn K S = true) (h3 : PySem.W.typeIn K (.ref S) = some (.type "type")) (h4 : PySem.W.subIn K (.type T) (.ref S) = some false) : PySem.W.kitOne K (.type T) (.ref S) = some false := by
  have e2 : ((PySem.W.clsIn K S).isSome && PySem.W.typeIn K (.ref S) == some (.type "type")) = true := by
    have q : (PySem.W.clsIn K S).isSome = true := h2
    rw [q, h3]
    rfl
  unfold PySem.W.kitOne
  rw [if_neg (by simp)]
  show (if ((PySem.W.clsIn K S).isSome && PySem.W.typeIn K (.ref S) == some (.type "type")) = true then PySem.W.subIn K (.type T) (.ref S) else none) = some false
  rw [if_pos e2]
  exact h4
theorem kit_yes {K : PySem.W.Frag} {A S : Addr} (h2 : PySem.W.isClsIn K S = true) (h3 : PySem.W.typeIn K (.ref S) = some (.type "type")) (h4 : PySem.W.subIn K (.ref A) (.ref S) = some true) : PySem.W.kitOne K (.ref A) (.ref S) = some true := by
  have e2 : ((PySem.W.clsIn K S).isSome && PySem.W.typeIn K (.ref S) == some (.type "type")) = true := by
    have q : (PySem.W.clsIn K S).isSome = true := h2
    rw [q, h3]
    rfl
  unfold PySem.W.kitOne
  split
  · rfl
  · show (if ((PySem.W.clsIn K S).isSome && PySem.W.typeIn K (.ref S) == some (.type "type")) = true then PySem.W.subIn K (.ref A) (.ref S) else none) = some true
    rw [if_pos e2]
    exact h4
theorem fund_mk1 {K : PySem.W.Frag} {x qual : Str} {st : Stmt} {f Td e1 : Addr} {oc kV doc pm cd ct cT : Value} {od an dT : Option Addr} {sl slT : Array (Option Value)} {nT : Nat} (l : K.lookup f = some ⟨oc, od, .func (PySem.W.fnOf x qual (defArgs st) (defBody st) (defScope st) (.ref Td) kV doc pm an cd ct), sl⟩)
    (lT : K.lookup Td = some ⟨cT, dT, .seq #[.ref e1] nT, slT⟩) (c : PySem.W.codeIn K cd qual = true) (k : PySem.W.keepIn K (.ref f) = true) : FunD K x qual (defArgs st) (defBody st) (defScope st) [V.ref e1] [] f (PySem.W.fnOf x qual (defArgs st) (defBody st) (defScope st) (.ref Td) kV doc pm an cd ct) :=
  ⟨⟨oc, od, .ref Td, kV, doc, pm, an, cd, ct, sl, rfl, l, c, .inr ⟨by simp, Td, _, [.ref e1], nT, rfl, lT, rfl, .cons rfl .nil⟩, .inl rfl⟩, k⟩
theorem fund_full1 {K : PySem.W.Frag} {x qual : Str} {params : Arguments} {body : List Stmt} {scope : Scope} {a : V} {f : Addr} {fd : FuncData} {ps : List Str} (F : FunD K x qual params body scope [a] [] f fd)
    (h : ∀ (T : Addr) (kV doc pm : Value) (an : Option Addr) (cdv ct : Value) (us its : List Value), us.length = ps.length → its.length = 1 →
      ∃ k, bindArgs (PySem.W.fnOf x qual params body scope (.ref T) kV doc pm an cdv ct) ⟨us, []⟩ = seqItems? (.ref T) >>= k ∧ k (some its.toArray) = pure (ps.zip (us ++ its.drop 1))) : Binds K fd ps [] := by
  obtain ⟨ds, v, bd⟩ := F.binds1 ps.length 1 (by simp) (by simp) h
  have v' : Vals [] ds := v
  cases v'
  exact bd
theorem fund_dfl1 {K : PySem.W.Frag} {x qual : Str} {params : Arguments} {body : List Stmt} {scope : Scope} {a : Addr} {f : Addr} {fd : FuncData} {ps : List Str} {n : Nat} (F : FunD K x qual params body scope [V.ref a] [] f fd) (hn : n + 1 = ps.length)
    (h : ∀ (T : Addr) (kV doc pm : Value) (an : Option Addr) (cdv ct : Value) (us its : List Value), us.length = n → its.length = 1 →
      ∃ k, bindArgs (PySem.W.fnOf x qual params body scope (.ref T) kV doc pm an cdv ct) ⟨us, []⟩ = seqItems? (.ref T) >>= k ∧ k (some its.toArray) = pure (ps.zip (us ++ its.drop 0))) : Binds K fd ps [.ref a] := by
  obtain ⟨ds, v, bd⟩ := F.binds1 n 0 (by simp) hn h
  have v' : Vals [V.ref a] ds := v
  cases v' with
  | cons r t =>
    cases t
    cases r
    exact bd
/-- an error of the class at S is what its own name catches -/
theorem exm_own {K : PySem.W.Frag} {S : Addr} (h1 : PySem.W.subIn K (.ref S) (.type "BaseException") = some true) (h2 : PySem.W.isClsIn K S = true) (h3 : PySem.W.typeIn K (.ref S) = some (.type "type")) (h4 : PySem.W.subIn K (.ref S) (.ref S) = some true) :
    PySem.W.exmOne K (.ref S) (.ref S) = some true := by
  have e1 : (PySem.W.subIn K (.ref S) (.type "BaseException") == some true) = true := by rw [h1]; rfl
  have e2 : ((PySem.W.clsIn K S).isSome && PySem.W.typeIn K (.ref S) == some (.type "type")) = true := by
    have q : (PySem.W.clsIn K S).isSome = true := h2
    rw [q, h3]
    rfl
  unfold PySem.W.exmOne
  rw [if_pos e1]
  show (if ((PySem.W.clsIn K S).isSome && PySem.W.typeIn K (.ref S) == some (.type "type")) = true then PySem.W.subIn K (.ref S) (.ref S) else none) = some true
  rw [if_pos e2]
  exact h4
/-- an error of the class at A, asked whether the name of the class at S catches it -/
theorem exm_of {K : PySem.W.Frag} {A S : Addr} {b : Bool} (h1 : PySem.W.subIn K (.ref S) (.type "BaseException") = some true) (h2 : PySem.W.isClsIn K S = true) (h3 : PySem.W.typeIn K (.ref S) = some (.type "type")) (h4 : PySem.W.subIn K (.ref A) (.ref S) = some b) :
    PySem.W.exmOne K (.ref A) (.ref S) = some b := by
  have e1 : (PySem.W.subIn K (.ref S) (.type "BaseException") == some true) = true := by rw [h1]; rfl
  have e2 : ((PySem.W.clsIn K S).isSome && PySem.W.typeIn K (.ref S) == some (.type "type")) = true := by
    have q : (PySem.W.clsIn K S).isSome = true := h2
    rw [q, h3]
    rfl
  unfold PySem.W.exmOne
  rw [if_pos e1]
  show (if ((PySem.W.clsIn K S).isSome && PySem.W.typeIn K (.ref S) == some (.type "type")) = true then PySem.W.subIn K (.ref A) (.ref S) else none) = some b
  rw [if_pos e2]
  exact h4
theorem all_mk {l : PySem.W.OpenLaw} {w : World} {K : PySem.W.Frag} {h : Heap} {mg : Str → Option Value} {fa : Addr} (X : K.In h) (G : h.Ns mainGlobals mg) (hfa : mg "law" = some (.ref fa))
    {GE CB f_xCB CI f_xCI C3 f_xC3 CE f_xCE CT CK f_W f_Q f_TF f_tI f_tE f_tH f_tB f_I3 f_RO f_LR f_AT f_CH f_WR f_BU f_BT f_bI TdbI e1bI f_le pL f_bE f_ce f_bb f_bf f_br f_X f_H f_D f_P f_K f_N f_RD f_LC f_LE f_BA f_S f_SB f_TE f_EN f_MA f_LT f_RF f_NT f_V : Addr} {oc_xCB kv_xCB dc_xCB pm_xCB cd_xCB ct_xCB oc_xCI kv_xCI dc_xCI pm_xCI cd_xCI ct_xCI oc_xC3 kv_xC3 dc_xC3 pm_xC3 cd_xC3 ct_xC3 oc_xCE kv_xCE dc_xCE pm_xCE cd_xCE ct_xCE oc_W kv_W dc_W pm_W cd_W ct_W oc_Q kv_Q dc_Q pm_Q cd_Q ct_Q oc_TF kv_TF dc_TF pm_TF cd_TF ct_TF oc_tI kv_tI dc_tI pm_tI cd_tI ct_tI oc_tE kv_tE dc_tE pm_tE cd_tE ct_tE oc_tH kv_tH dc_tH pm_tH cd_tH ct_tH oc_tB kv_tB dc_tB pm_tB cd_tB ct_tB oc_I3 kv_I3 dc_I3 pm_I3 cd_I3 ct_I3 oc_RO kv_RO dc_RO pm_RO cd_RO ct_RO oc_LR kv_LR dc_LR pm_LR cd_LR ct_LR oc_AT kv_AT dc_AT pm_AT cd_AT ct_AT oc_CH kv_CH dc_CH pm_CH cd_CH ct_CH oc_WR kv_WR dc_WR pm_WR cd_WR ct_WR oc_BU kv_BU dc_BU pm_BU cd_BU ct_BU oc_BT kv_BT dc_BT pm_BT cd_BT ct_BT oc_bI kv_bI dc_bI pm_bI cd_bI ct_bI cTbI oc_le kv_le dc_le pm_le cd_le ct_le oc_bE kv_bE dc_bE pm_bE cd_bE ct_bE oc_ce kv_ce dc_ce pm_ce cd_ce ct_ce oc_bb kv_bb dc_bb pm_bb cd_bb ct_bb oc_bf kv_bf dc_bf pm_bf cd_bf ct_bf oc_br kv_br dc_br pm_br cd_br ct_br oc_X kv_X dc_X pm_X cd_X ct_X oc_H kv_H dc_H pm_H cd_H ct_H oc_D kv_D dc_D pm_D cd_D ct_D oc_P kv_P dc_P pm_P cd_P ct_P oc_K kv_K dc_K pm_K cd_K ct_K oc_N kv_N dc_N pm_N cd_N ct_N oc_RD kv_RD dc_RD pm_RD cd_RD ct_RD oc_LC kv_LC dc_LC pm_LC cd_LC ct_LC oc_LE kv_LE dc_LE pm_LE cd_LE ct_LE oc_BA kv_BA dc_BA pm_BA cd_BA ct_BA oc_S kv_S dc_S pm_S cd_S ct_S oc_SB kv_SB dc_SB pm_SB cd_SB ct_SB oc_TE kv_TE dc_TE pm_TE cd_TE ct_TE oc_EN kv_EN dc_EN pm_EN cd_EN ct_EN oc_MA kv_MA dc_MA pm_MA cd_MA ct_MA oc_LT kv_LT dc_LT pm_LT cd_LT ct_LT oc_RF kv_RF dc_RF pm_RF cd_RF ct_RF oc_NT kv_NT dc_NT pm_NT cd_NT ct_NT oc_V kv_V dc_V pm_V cd_V ct_V : Value} {od_xCB an_xCB od_xCI an_xCI od_xC3 an_xC3 od_xCE an_xCE od_W an_W od_Q an_Q od_TF an_TF od_tI an_tI od_tE an_tE od_tH an_tH od_tB an_tB od_I3 an_I3 od_RO an_RO od_LR an_LR od_AT an_AT od_CH an_CH od_WR an_WR od_BU an_BU od_BT an_BT od_bI an_bI dTbI dEbI od_le an_le od_bE an_bE od_ce an_ce od_bb an_bb od_bf an_bf od_br an_br od_X an_X od_H an_H od_D an_D od_P an_P od_K an_K od_N an_N od_RD an_RD od_LC an_LC od_LE an_LE od_BA an_BA od_S an_S od_SB an_SB od_TE an_TE od_EN an_EN od_MA an_MA od_LT an_LT od_RF an_RF od_NT an_NT od_V an_V : Option Addr} {sl_xCB sl_xCI sl_xC3 sl_xCE sl_W sl_Q sl_TF sl_tI sl_tE sl_tH sl_tB sl_I3 sl_RO sl_LR sl_AT sl_CH sl_WR sl_BU sl_BT sl_bI sTbI sEbI sl_le sl_bE sl_ce sl_bb sl_bf sl_br sl_X sl_H sl_D sl_P sl_K sl_N sl_RD sl_LC sl_LE sl_BA sl_S sl_SB sl_TE sl_EN sl_MA sl_LT sl_RF sl_NT sl_V : Array (Option Value)} {tM : Tok} {nTbI nEbI : Nat}
    {nmCB qCB : Str} {NCB : Addr} {bsCB : List Value} {snCB : List Str} {subCB : List Value} {abCB : Bool} {colCB : Option Bool} {ddCB : Option Addr} {m0CB m1CB m2CB m3CB m5CB : Option Value}
    {nmCI qCI : Str} {NCI : Addr} {bsCI : List Value} {snCI : List Str} {subCI : List Value} {abCI : Bool} {colCI : Option Bool} {ddCI : Option Addr} {m0CI m1CI m2CI m3CI m5CI : Option Value}
    {nmC3 qC3 : Str} {NC3 : Addr} {bsC3 : List Value} {snC3 : List Str} {subC3 : List Value} {abC3 : Bool} {colC3 : Option Bool} {ddC3 : Option Addr} {m0C3 m1C3 m2C3 m3C3 m5C3 : Option Value}
    {nmCE qCE : Str} {NCE : Addr} {bsCE : List Value} {snCE : List Str} {subCE : List Value} {abCE : Bool} {colCE : Option Bool} {ddCE : Option Addr} {m0CE m1CE m2CE m3CE m5CE : Option Value}
    {restL : List Value}
    (z_len : PySem.W.nsIn K mainGlobals "len" = some none)
    (z_isinstance : PySem.W.nsIn K mainGlobals "isinstance" = some none)
    (z_int : PySem.W.nsIn K mainGlobals "int" = some none)
    (z_bool : PySem.W.nsIn K mainGlobals "bool" = some none)
    (z_list : PySem.W.nsIn K mainGlobals "list" = some none)
    (z_tuple : PySem.W.nsIn K mainGlobals "tuple" = some none)
    (z_range : PySem.W.nsIn K mainGlobals "range" = some none)
    (z_abs : PySem.W.nsIn K mainGlobals "abs" = some none)
    (z_enumerate : PySem.W.nsIn K mainGlobals "enumerate" = some none)
    (z_all : PySem.W.nsIn K mainGlobals "all" = some none)
    (z_zip : PySem.W.nsIn K mainGlobals "zip" = some none)
    (z_str : PySem.W.nsIn K mainGlobals "str" = some none)
    (z_sorted : PySem.W.nsIn K mainGlobals "sorted" = some none)
    (z_set : PySem.W.nsIn K mainGlobals "set" = some none)
    (z_min : PySem.W.nsIn K mainGlobals "min" = some none)
    (gM : PySem.W.nsIn K mainGlobals "MOST_TIES" = some (some (.int 4 tM)))
    (aCB : PySem.W.nsIn K mainGlobals "BadTies" = some (some (.ref CB)))
    (axCB : PySem.W.findIn K (.ref CB) "__init__" = some (some (.ref f_xCB)))
    (ixCB : PySem.W.typeIn K (.ref f_xCB) = some (.type "function"))
    (lxCB : K.lookup f_xCB = some ⟨oc_xCB, od_xCB, .func (PySem.W.fnOf "__init__" "BadTies.__init__" (defArgs s_BadTies_init) (defBody s_BadTies_init) (defScope s_BadTies_init) .none kv_xCB dc_xCB pm_xCB an_xCB cd_xCB ct_xCB), sl_xCB⟩)
    (cxCB : PySem.W.codeIn K cd_xCB "BadTies.__init__" = true)
    (kxCB : PySem.W.keepIn K (.ref f_xCB) = true)
    (xCB : K.lookup CB = some (excClassObj nmCB qCB CB NCB bsCB [.ref GE, .type "ValueError", .type "Exception", .type "BaseException", .type "object"] true snCB subCB abCB colCB ddCB m0CB m1CB m2CB m3CB m5CB "ValueError.__new__"))
    (saCB : PySem.W.findIn K (.ref CB) "__setattr__" = some (some (.builtin "object.__setattr__")))
    (gaCB : PySem.W.findIn K (.ref CB) "__getattribute__" = some (some (.builtin "BaseException.__getattribute__")))
    (ggCB : PySem.W.findIn K (.ref CB) "__getattr__" = some none)
    (no0CB : PySem.W.findIn K (.ref CB) "what" = some none)
    (kcCB : PySem.W.keepIn K (.ref CB) = true)
    (exCB : PySem.W.subIn K (.ref CB) (.type "BaseException") = some true)
    (tyCB : PySem.W.typeIn K (.ref CB) = some (.type "type"))
    (hdCB : PySem.W.hasDictIn K CB = true)
    (icCB : PySem.W.isClsIn K CB = true)
    (scCB : PySem.W.subIn K (.ref CB) (.ref CB) = some true)
    (aCI : PySem.W.nsIn K mainGlobals "NoTie" = some (some (.ref CI)))
    (axCI : PySem.W.findIn K (.ref CI) "__init__" = some (some (.ref f_xCI)))
    (ixCI : PySem.W.typeIn K (.ref f_xCI) = some (.type "function"))
    (lxCI : K.lookup f_xCI = some ⟨oc_xCI, od_xCI, .func (PySem.W.fnOf "__init__" "NoTie.__init__" (defArgs s_NoTie_init) (defBody s_NoTie_init) (defScope s_NoTie_init) .none kv_xCI dc_xCI pm_xCI an_xCI cd_xCI ct_xCI), sl_xCI⟩)
    (cxCI : PySem.W.codeIn K cd_xCI "NoTie.__init__" = true)
    (kxCI : PySem.W.keepIn K (.ref f_xCI) = true)
    (xCI : K.lookup CI = some (excClassObj nmCI qCI CI NCI bsCI [.ref GE, .type "ValueError", .type "Exception", .type "BaseException", .type "object"] true snCI subCI abCI colCI ddCI m0CI m1CI m2CI m3CI m5CI "ValueError.__new__"))
    (saCI : PySem.W.findIn K (.ref CI) "__setattr__" = some (some (.builtin "object.__setattr__")))
    (gaCI : PySem.W.findIn K (.ref CI) "__getattribute__" = some (some (.builtin "BaseException.__getattribute__")))
    (ggCI : PySem.W.findIn K (.ref CI) "__getattr__" = some none)
    (no0CI : PySem.W.findIn K (.ref CI) "tie" = some none)
    (kcCI : PySem.W.keepIn K (.ref CI) = true)
    (exCI : PySem.W.subIn K (.ref CI) (.type "BaseException") = some true)
    (tyCI : PySem.W.typeIn K (.ref CI) = some (.type "type"))
    (hdCI : PySem.W.hasDictIn K CI = true)
    (icCI : PySem.W.isClsIn K CI = true)
    (scCI : PySem.W.subIn K (.ref CI) (.ref CI) = some true)
    (aC3 : PySem.W.nsIn K mainGlobals "NoThree" = some (some (.ref C3)))
    (axC3 : PySem.W.findIn K (.ref C3) "__init__" = some (some (.ref f_xC3)))
    (ixC3 : PySem.W.typeIn K (.ref f_xC3) = some (.type "function"))
    (lxC3 : K.lookup f_xC3 = some ⟨oc_xC3, od_xC3, .func (PySem.W.fnOf "__init__" "NoThree.__init__" (defArgs s_NoThree_init) (defBody s_NoThree_init) (defScope s_NoThree_init) .none kv_xC3 dc_xC3 pm_xC3 an_xC3 cd_xC3 ct_xC3), sl_xC3⟩)
    (cxC3 : PySem.W.codeIn K cd_xC3 "NoThree.__init__" = true)
    (kxC3 : PySem.W.keepIn K (.ref f_xC3) = true)
    (xC3 : K.lookup C3 = some (excClassObj nmC3 qC3 C3 NC3 bsC3 [.ref GE, .type "ValueError", .type "Exception", .type "BaseException", .type "object"] true snC3 subC3 abC3 colC3 ddC3 m0C3 m1C3 m2C3 m3C3 m5C3 "ValueError.__new__"))
    (saC3 : PySem.W.findIn K (.ref C3) "__setattr__" = some (some (.builtin "object.__setattr__")))
    (gaC3 : PySem.W.findIn K (.ref C3) "__getattribute__" = some (some (.builtin "BaseException.__getattribute__")))
    (ggC3 : PySem.W.findIn K (.ref C3) "__getattr__" = some none)
    (no0C3 : PySem.W.findIn K (.ref C3) "three" = some none)
    (kcC3 : PySem.W.keepIn K (.ref C3) = true)
    (exC3 : PySem.W.subIn K (.ref C3) (.type "BaseException") = some true)
    (tyC3 : PySem.W.typeIn K (.ref C3) = some (.type "type"))
    (hdC3 : PySem.W.hasDictIn K C3 = true)
    (icC3 : PySem.W.isClsIn K C3 = true)
    (scC3 : PySem.W.subIn K (.ref C3) (.ref C3) = some true)
    (aCE : PySem.W.nsIn K mainGlobals "BadBook" = some (some (.ref CE)))
    (axCE : PySem.W.findIn K (.ref CE) "__init__" = some (some (.ref f_xCE)))
    (ixCE : PySem.W.typeIn K (.ref f_xCE) = some (.type "function"))
    (lxCE : K.lookup f_xCE = some ⟨oc_xCE, od_xCE, .func (PySem.W.fnOf "__init__" "BadBook.__init__" (defArgs s_BadBook_init) (defBody s_BadBook_init) (defScope s_BadBook_init) .none kv_xCE dc_xCE pm_xCE an_xCE cd_xCE ct_xCE), sl_xCE⟩)
    (cxCE : PySem.W.codeIn K cd_xCE "BadBook.__init__" = true)
    (kxCE : PySem.W.keepIn K (.ref f_xCE) = true)
    (xCE : K.lookup CE = some (excClassObj nmCE qCE CE NCE bsCE [.ref GE, .type "ValueError", .type "Exception", .type "BaseException", .type "object"] true snCE subCE abCE colCE ddCE m0CE m1CE m2CE m3CE m5CE "ValueError.__new__"))
    (saCE : PySem.W.findIn K (.ref CE) "__setattr__" = some (some (.builtin "object.__setattr__")))
    (gaCE : PySem.W.findIn K (.ref CE) "__getattribute__" = some (some (.builtin "BaseException.__getattribute__")))
    (ggCE : PySem.W.findIn K (.ref CE) "__getattr__" = some none)
    (no0CE : PySem.W.findIn K (.ref CE) "index" = some none)
    (no1CE : PySem.W.findIn K (.ref CE) "what" = some none)
    (kcCE : PySem.W.keepIn K (.ref CE) = true)
    (exCE : PySem.W.subIn K (.ref CE) (.type "BaseException") = some true)
    (tyCE : PySem.W.typeIn K (.ref CE) = some (.type "type"))
    (hdCE : PySem.W.hasDictIn K CE = true)
    (icCE : PySem.W.isClsIn K CE = true)
    (scCE : PySem.W.subIn K (.ref CE) (.ref CE) = some true)
    (aCT : PySem.W.nsIn K mainGlobals "Ties" = some (some (.ref CT)))
    (pgCT : PySem.W.plainGet K CT Str.empty = true)
    (hdCT : PySem.W.hasDictIn K CT = true)
    (poCT : PySem.W.plainOver K CT = true)
    (saCT : PySem.W.findIn K (.ref CT) "__setattr__" = some (some (.builtin "object.__setattr__")))
    (mkCT : PySem.W.makesIn K CT = true)
    (kcCT : PySem.W.keepIn K (.ref CT) = true)
    (n0CT : PySem.W.findIn K (.ref CT) "backs" = some none)
    (n1CT : PySem.W.findIn K (.ref CT) "many" = some none)
    (haCT : PySem.W.findIn K (.ref CT) "__class__" = some (some (.builtin "object.__class__")))
    (hn0 : PySem.W.specialIn K (.builtin "object.__class__") "__get__" = some (some (.builtin "getset_descriptor.__get__")))
    (htk0 : PySem.W.takesIn K (.builtin "object.__class__") = some true)
    (hmCT : PySem.W.mroIn K CT (.type "object") = some true)
    (icCT : PySem.W.isClsIn K CT = true)
    (tyCT : PySem.W.typeIn K (.ref CT) = some (.type "type"))
    (suCT : PySem.W.subIn K (.type "tuple") (.ref CT) = some false)
    (nfCT : PySem.W.notFirst K CT (.type "tuple") = true)
    (slCT : PySem.W.subIn K (.type "list") (.ref CT) = some false)
    (aCK : PySem.W.nsIn K mainGlobals "Book" = some (some (.ref CK)))
    (pgCK : PySem.W.plainGet K CK Str.empty = true)
    (hdCK : PySem.W.hasDictIn K CK = true)
    (poCK : PySem.W.plainOver K CK = true)
    (saCK : PySem.W.findIn K (.ref CK) "__setattr__" = some (some (.builtin "object.__setattr__")))
    (mkCK : PySem.W.makesIn K CK = true)
    (kcCK : PySem.W.keepIn K (.ref CK) = true)
    (n0CK : PySem.W.findIn K (.ref CK) "ties" = some none)
    (n1CK : PySem.W.findIn K (.ref CK) "barred" = some none)
    (n2CK : PySem.W.findIn K (.ref CK) "least_barred" = some none)
    (n3CK : PySem.W.findIn K (.ref CK) "bar_table" = some none)
    (haCK : PySem.W.findIn K (.ref CK) "__class__" = some (some (.builtin "object.__class__")))
    (hmCK : PySem.W.mroIn K CK (.type "object") = some true)
    (icCK : PySem.W.isClsIn K CK = true)
    (tyCK : PySem.W.typeIn K (.ref CK) = some (.type "type"))
    (suCK : PySem.W.subIn K (.type "tuple") (.ref CK) = some false)
    (nfCK : PySem.W.notFirst K CK (.type "tuple") = true)
    (siCK : PySem.W.subIn K (.type "int") (.ref CK) = some false)
    (niCK : PySem.W.notFirst K CK (.type "int") = true)
    (rdCK : PySem.W.readsIn K CK (.type "type") = true)
    (gtCK : PySem.W.specialIn K (.ref CK) "__getattribute__" = some (some (.builtin "type.__getattribute__")))
    (aGE : PySem.W.nsIn K mainGlobals "GuestError" = some (some (.ref GE)))
    (icGE : PySem.W.isClsIn K GE = true)
    (tyGE : PySem.W.typeIn K (.ref GE) = some (.type "type"))
    (suGECE : PySem.W.subIn K (.ref CE) (.ref GE) = some true)
    (haCE : PySem.W.findIn K (.ref CE) "__class__" = some (some (.builtin "object.__class__")))
    (hmCE : PySem.W.mroIn K CE (.type "object") = some true)
    (suGECI : PySem.W.subIn K (.ref CI) (.ref GE) = some true)
    (haCI : PySem.W.findIn K (.ref CI) "__class__" = some (some (.builtin "object.__class__")))
    (hmCI : PySem.W.mroIn K CI (.type "object") = some true)
    (aW : PySem.W.nsIn K mainGlobals "is_whole" = some (some (.ref f_W)))
    (lW : K.lookup f_W = some ⟨oc_W, od_W, .func (PySem.W.fnOf "is_whole" "is_whole" (defArgs s_is_whole) (defBody s_is_whole) (defScope s_is_whole) .none kv_W dc_W pm_W an_W cd_W ct_W), sl_W⟩)
    (cW : PySem.W.codeIn K cd_W "is_whole" = true)
    (kW : PySem.W.keepIn K (.ref f_W) = true)
    (aQ : PySem.W.nsIn K mainGlobals "is_sequence" = some (some (.ref f_Q)))
    (lQ : K.lookup f_Q = some ⟨oc_Q, od_Q, .func (PySem.W.fnOf "is_sequence" "is_sequence" (defArgs s_is_sequence) (defBody s_is_sequence) (defScope s_is_sequence) .none kv_Q dc_Q pm_Q an_Q cd_Q ct_Q), sl_Q⟩)
    (cQ : PySem.W.codeIn K cd_Q "is_sequence" = true)
    (kQ : PySem.W.keepIn K (.ref f_Q) = true)
    (aTF : PySem.W.nsIn K mainGlobals "ties_fault" = some (some (.ref f_TF)))
    (lTF : K.lookup f_TF = some ⟨oc_TF, od_TF, .func (PySem.W.fnOf "ties_fault" "ties_fault" (defArgs s_ties_fault) (defBody s_ties_fault) (defScope s_ties_fault) .none kv_TF dc_TF pm_TF an_TF cd_TF ct_TF), sl_TF⟩)
    (cTF : PySem.W.codeIn K cd_TF "ties_fault" = true)
    (kTF : PySem.W.keepIn K (.ref f_TF) = true)
    (atI : PySem.W.findIn K (.ref CT) "__init__" = some (some (.ref f_tI)))
    (itI : PySem.W.isFn K (.ref f_tI) = true)
    (ltI : K.lookup f_tI = some ⟨oc_tI, od_tI, .func (PySem.W.fnOf "__init__" "Ties.__init__" (defArgs s_Ties_init) (defBody s_Ties_init) (defScope s_Ties_init) .none kv_tI dc_tI pm_tI an_tI cd_tI ct_tI), sl_tI⟩)
    (ctI : PySem.W.codeIn K cd_tI "Ties.__init__" = true)
    (ktI : PySem.W.keepIn K (.ref f_tI) = true)
    (atE : PySem.W.findIn K (.ref CT) "__eq__" = some (some (.ref f_tE)))
    (itE : PySem.W.isFn K (.ref f_tE) = true)
    (ltE : K.lookup f_tE = some ⟨oc_tE, od_tE, .func (PySem.W.fnOf "__eq__" "Ties.__eq__" (defArgs s_Ties_eq) (defBody s_Ties_eq) (defScope s_Ties_eq) .none kv_tE dc_tE pm_tE an_tE cd_tE ct_tE), sl_tE⟩)
    (ctE : PySem.W.codeIn K cd_tE "Ties.__eq__" = true)
    (ktE : PySem.W.keepIn K (.ref f_tE) = true)
    (atH : PySem.W.findIn K (.ref CT) "has" = some (some (.ref f_tH)))
    (itH : PySem.W.isFn K (.ref f_tH) = true)
    (ltH : K.lookup f_tH = some ⟨oc_tH, od_tH, .func (PySem.W.fnOf "has" "Ties.has" (defArgs s_Ties_has) (defBody s_Ties_has) (defScope s_Ties_has) .none kv_tH dc_tH pm_tH an_tH cd_tH ct_tH), sl_tH⟩)
    (ctH : PySem.W.codeIn K cd_tH "Ties.has" = true)
    (ktH : PySem.W.keepIn K (.ref f_tH) = true)
    (atB : PySem.W.findIn K (.ref CT) "back" = some (some (.ref f_tB)))
    (itB : PySem.W.isFn K (.ref f_tB) = true)
    (ltB : K.lookup f_tB = some ⟨oc_tB, od_tB, .func (PySem.W.fnOf "back" "Ties.back" (defArgs s_Ties_back) (defBody s_Ties_back) (defScope s_Ties_back) .none kv_tB dc_tB pm_tB an_tB cd_tB ct_tB), sl_tB⟩)
    (ctB : PySem.W.codeIn K cd_tB "Ties.back" = true)
    (ktB : PySem.W.keepIn K (.ref f_tB) = true)
    (aI3 : PySem.W.nsIn K mainGlobals "is_three" = some (some (.ref f_I3)))
    (lI3 : K.lookup f_I3 = some ⟨oc_I3, od_I3, .func (PySem.W.fnOf "is_three" "is_three" (defArgs s_is_three) (defBody s_is_three) (defScope s_is_three) .none kv_I3 dc_I3 pm_I3 an_I3 cd_I3 ct_I3), sl_I3⟩)
    (cI3 : PySem.W.codeIn K cd_I3 "is_three" = true)
    (kI3 : PySem.W.keepIn K (.ref f_I3) = true)
    (aRO : PySem.W.nsIn K mainGlobals "readings_of" = some (some (.ref f_RO)))
    (lRO : K.lookup f_RO = some ⟨oc_RO, od_RO, .func (PySem.W.fnOf "readings_of" "readings_of" (defArgs s_readings_of) (defBody s_readings_of) (defScope s_readings_of) .none kv_RO dc_RO pm_RO an_RO cd_RO ct_RO), sl_RO⟩)
    (cRO : PySem.W.codeIn K cd_RO "readings_of" = true)
    (kRO : PySem.W.keepIn K (.ref f_RO) = true)
    (aLR : PySem.W.nsIn K mainGlobals "least_reading" = some (some (.ref f_LR)))
    (lLR : K.lookup f_LR = some ⟨oc_LR, od_LR, .func (PySem.W.fnOf "least_reading" "least_reading" (defArgs s_least_reading) (defBody s_least_reading) (defScope s_least_reading) .none kv_LR dc_LR pm_LR an_LR cd_LR ct_LR), sl_LR⟩)
    (cLR : PySem.W.codeIn K cd_LR "least_reading" = true)
    (kLR : PySem.W.keepIn K (.ref f_LR) = true)
    (aAT : PySem.W.nsIn K mainGlobals "all_threes" = some (some (.ref f_AT)))
    (lAT : K.lookup f_AT = some ⟨oc_AT, od_AT, .func (PySem.W.fnOf "all_threes" "all_threes" (defArgs s_all_threes) (defBody s_all_threes) (defScope s_all_threes) .none kv_AT dc_AT pm_AT an_AT cd_AT ct_AT), sl_AT⟩)
    (cAT : PySem.W.codeIn K cd_AT "all_threes" = true)
    (kAT : PySem.W.keepIn K (.ref f_AT) = true)
    (aCH : PySem.W.nsIn K mainGlobals "_check_threes" = some (some (.ref f_CH)))
    (lCH : K.lookup f_CH = some ⟨oc_CH, od_CH, .func (PySem.W.fnOf "_check_threes" "_check_threes" (defArgs s_check_threes) (defBody s_check_threes) (defScope s_check_threes) .none kv_CH dc_CH pm_CH an_CH cd_CH ct_CH), sl_CH⟩)
    (cCH : PySem.W.codeIn K cd_CH "_check_threes" = true)
    (kCH : PySem.W.keepIn K (.ref f_CH) = true)
    (aWR : PySem.W.nsIn K mainGlobals "_with_readings" = some (some (.ref f_WR)))
    (lWR : K.lookup f_WR = some ⟨oc_WR, od_WR, .func (PySem.W.fnOf "_with_readings" "_with_readings" (defArgs s_with_readings) (defBody s_with_readings) (defScope s_with_readings) .none kv_WR dc_WR pm_WR an_WR cd_WR ct_WR), sl_WR⟩)
    (cWR : PySem.W.codeIn K cd_WR "_with_readings" = true)
    (kWR : PySem.W.keepIn K (.ref f_WR) = true)
    (aBU : PySem.W.nsIn K mainGlobals "_but" = some (some (.ref f_BU)))
    (lBU : K.lookup f_BU = some ⟨oc_BU, od_BU, .func (PySem.W.fnOf "_but" "_but" (defArgs s_but) (defBody s_but) (defScope s_but) .none kv_BU dc_BU pm_BU an_BU cd_BU ct_BU), sl_BU⟩)
    (cBU : PySem.W.codeIn K cd_BU "_but" = true)
    (kBU : PySem.W.keepIn K (.ref f_BU) = true)
    (aBT : PySem.W.nsIn K mainGlobals "_bar_table" = some (some (.ref f_BT)))
    (lBT : K.lookup f_BT = some ⟨oc_BT, od_BT, .func (PySem.W.fnOf "_bar_table" "_bar_table" (defArgs s_bar_table) (defBody s_bar_table) (defScope s_bar_table) .none kv_BT dc_BT pm_BT an_BT cd_BT ct_BT), sl_BT⟩)
    (cBT : PySem.W.codeIn K cd_BT "_bar_table" = true)
    (kBT : PySem.W.keepIn K (.ref f_BT) = true)
    (abI : PySem.W.findIn K (.ref CK) "__init__" = some (some (.ref f_bI)))
    (ibI : PySem.W.isFn K (.ref f_bI) = true)
    (lbI : K.lookup f_bI = some ⟨oc_bI, od_bI, .func (PySem.W.fnOf "__init__" "Book.__init__" (defArgs s_Book_init) (defBody s_Book_init) (defScope s_Book_init) (.ref TdbI) kv_bI dc_bI pm_bI an_bI cd_bI ct_bI), sl_bI⟩)
    (lTbI : K.lookup TdbI = some ⟨cTbI, dTbI, .seq #[.ref e1bI] nTbI, sTbI⟩)
    (lEbI : K.lookup e1bI = some ⟨.type "tuple", dEbI, .seq #[] nEbI, sEbI⟩)
    (cbI : PySem.W.codeIn K cd_bI "Book.__init__" = true)
    (kbI : PySem.W.keepIn K (.ref f_bI) = true)
    (ale : PySem.W.findCls K (.ref CK) (.type "type") "letting" = some (.get (.builtin "staticmethod.__get__") (.ref pL) .none (.ref CK)))
    (rle : PySem.W.recIn K pL "staticmethod" = some (.ref f_le :: restL))
    (lle : K.lookup f_le = some ⟨oc_le, od_le, .func (PySem.W.fnOf "letting" "Book.letting" (defArgs s_Book_letting) (defBody s_Book_letting) (defScope s_Book_letting) .none kv_le dc_le pm_le an_le cd_le ct_le), sl_le⟩)
    (cle : PySem.W.codeIn K cd_le "Book.letting" = true)
    (kle : PySem.W.keepIn K (.ref f_le) = true)
    (abE : PySem.W.findIn K (.ref CK) "__eq__" = some (some (.ref f_bE)))
    (ibE : PySem.W.isFn K (.ref f_bE) = true)
    (lbE : K.lookup f_bE = some ⟨oc_bE, od_bE, .func (PySem.W.fnOf "__eq__" "Book.__eq__" (defArgs s_Book_eq) (defBody s_Book_eq) (defScope s_Book_eq) .none kv_bE dc_bE pm_bE an_bE cd_bE ct_bE), sl_bE⟩)
    (cbE : PySem.W.codeIn K cd_bE "Book.__eq__" = true)
    (kbE : PySem.W.keepIn K (.ref f_bE) = true)
    (ace : PySem.W.findIn K (.ref CK) "_check_each" = some (some (.ref f_ce)))
    (ice : PySem.W.isFn K (.ref f_ce) = true)
    (lce : K.lookup f_ce = some ⟨oc_ce, od_ce, .func (PySem.W.fnOf "_check_each" "Book._check_each" (defArgs s_check_each) (defBody s_check_each) (defScope s_check_each) .none kv_ce dc_ce pm_ce an_ce cd_ce ct_ce), sl_ce⟩)
    (cce : PySem.W.codeIn K cd_ce "Book._check_each" = true)
    (kce : PySem.W.keepIn K (.ref f_ce) = true)
    (abb : PySem.W.findIn K (.ref CK) "bars" = some (some (.ref f_bb)))
    (ibb : PySem.W.isFn K (.ref f_bb) = true)
    (lbb : K.lookup f_bb = some ⟨oc_bb, od_bb, .func (PySem.W.fnOf "bars" "Book.bars" (defArgs s_Book_bars) (defBody s_Book_bars) (defScope s_Book_bars) .none kv_bb dc_bb pm_bb an_bb cd_bb ct_bb), sl_bb⟩)
    (cbb : PySem.W.codeIn K cd_bb "Book.bars" = true)
    (kbb : PySem.W.keepIn K (.ref f_bb) = true)
    (abf : PySem.W.findIn K (.ref CK) "fitting" = some (some (.ref f_bf)))
    (ibf : PySem.W.isFn K (.ref f_bf) = true)
    (lbf : K.lookup f_bf = some ⟨oc_bf, od_bf, .func (PySem.W.fnOf "fitting" "Book.fitting" (defArgs s_Book_fitting) (defBody s_Book_fitting) (defScope s_Book_fitting) .none kv_bf dc_bf pm_bf an_bf cd_bf ct_bf), sl_bf⟩)
    (cbf : PySem.W.codeIn K cd_bf "Book.fitting" = true)
    (kbf : PySem.W.keepIn K (.ref f_bf) = true)
    (abr : PySem.W.findIn K (.ref CK) "barring" = some (some (.ref f_br)))
    (ibr : PySem.W.isFn K (.ref f_br) = true)
    (lbr : K.lookup f_br = some ⟨oc_br, od_br, .func (PySem.W.fnOf "barring" "Book.barring" (defArgs s_Book_barring) (defBody s_Book_barring) (defScope s_Book_barring) .none kv_br dc_br pm_br an_br cd_br ct_br), sl_br⟩)
    (cbr : PySem.W.codeIn K cd_br "Book.barring" = true)
    (kbr : PySem.W.keepIn K (.ref f_br) = true)
    (aX : PySem.W.nsIn K mainGlobals "_law_mix" = some (some (.ref f_X)))
    (lX : K.lookup f_X = some ⟨oc_X, od_X, .func (PySem.W.fnOf "_law_mix" "_law_mix" (defArgs s_Lmix) (defBody s_Lmix) (defScope s_Lmix) .none kv_X dc_X pm_X an_X cd_X ct_X), sl_X⟩)
    (cX : PySem.W.codeIn K cd_X "_law_mix" = true)
    (kX : PySem.W.keepIn K (.ref f_X) = true)
    (aH : PySem.W.nsIn K mainGlobals "_law_hand" = some (some (.ref f_H)))
    (lH : K.lookup f_H = some ⟨oc_H, od_H, .func (PySem.W.fnOf "_law_hand" "_law_hand" (defArgs s_Lhand) (defBody s_Lhand) (defScope s_Lhand) .none kv_H dc_H pm_H an_H cd_H ct_H), sl_H⟩)
    (cH : PySem.W.codeIn K cd_H "_law_hand" = true)
    (kH : PySem.W.keepIn K (.ref f_H) = true)
    (aD : PySem.W.nsIn K mainGlobals "_law_draw" = some (some (.ref f_D)))
    (lD : K.lookup f_D = some ⟨oc_D, od_D, .func (PySem.W.fnOf "_law_draw" "_law_draw" (defArgs s_Ldraw) (defBody s_Ldraw) (defScope s_Ldraw) .none kv_D dc_D pm_D an_D cd_D ct_D), sl_D⟩)
    (cD : PySem.W.codeIn K cd_D "_law_draw" = true)
    (kD : PySem.W.keepIn K (.ref f_D) = true)
    (aP : PySem.W.nsIn K mainGlobals "_law_pick" = some (some (.ref f_P)))
    (lP : K.lookup f_P = some ⟨oc_P, od_P, .func (PySem.W.fnOf "_law_pick" "_law_pick" (defArgs s_Lpick) (defBody s_Lpick) (defScope s_Lpick) .none kv_P dc_P pm_P an_P cd_P ct_P), sl_P⟩)
    (cP : PySem.W.codeIn K cd_P "_law_pick" = true)
    (kP : PySem.W.keepIn K (.ref f_P) = true)
    (aK : PySem.W.nsIn K mainGlobals "_law_backs" = some (some (.ref f_K)))
    (lK : K.lookup f_K = some ⟨oc_K, od_K, .func (PySem.W.fnOf "_law_backs" "_law_backs" (defArgs s_Lbacks) (defBody s_Lbacks) (defScope s_Lbacks) .none kv_K dc_K pm_K an_K cd_K ct_K), sl_K⟩)
    (cK : PySem.W.codeIn K cd_K "_law_backs" = true)
    (kK : PySem.W.keepIn K (.ref f_K) = true)
    (aN : PySem.W.nsIn K mainGlobals "_law_plain" = some (some (.ref f_N)))
    (lN : K.lookup f_N = some ⟨oc_N, od_N, .func (PySem.W.fnOf "_law_plain" "_law_plain" (defArgs s_Lplain) (defBody s_Lplain) (defScope s_Lplain) .none kv_N dc_N pm_N an_N cd_N ct_N), sl_N⟩)
    (cN : PySem.W.codeIn K cd_N "_law_plain" = true)
    (kN : PySem.W.keepIn K (.ref f_N) = true)
    (aRD : PySem.W.nsIn K mainGlobals "_law_readings" = some (some (.ref f_RD)))
    (lRD : K.lookup f_RD = some ⟨oc_RD, od_RD, .func (PySem.W.fnOf "_law_readings" "_law_readings" (defArgs s_Lreadings) (defBody s_Lreadings) (defScope s_Lreadings) .none kv_RD dc_RD pm_RD an_RD cd_RD ct_RD), sl_RD⟩)
    (cRD : PySem.W.codeIn K cd_RD "_law_readings" = true)
    (kRD : PySem.W.keepIn K (.ref f_RD) = true)
    (aLC : PySem.W.nsIn K mainGlobals "_law_classes" = some (some (.ref f_LC)))
    (lLC : K.lookup f_LC = some ⟨oc_LC, od_LC, .func (PySem.W.fnOf "_law_classes" "_law_classes" (defArgs s_Lclasses) (defBody s_Lclasses) (defScope s_Lclasses) .none kv_LC dc_LC pm_LC an_LC cd_LC ct_LC), sl_LC⟩)
    (cLC : PySem.W.codeIn K cd_LC "_law_classes" = true)
    (kLC : PySem.W.keepIn K (.ref f_LC) = true)
    (aLE : PySem.W.nsIn K mainGlobals "_law_let" = some (some (.ref f_LE)))
    (lLE : K.lookup f_LE = some ⟨oc_LE, od_LE, .func (PySem.W.fnOf "_law_let" "_law_let" (defArgs s_Llet) (defBody s_Llet) (defScope s_Llet) .none kv_LE dc_LE pm_LE an_LE cd_LE ct_LE), sl_LE⟩)
    (cLE : PySem.W.codeIn K cd_LE "_law_let" = true)
    (kLE : PySem.W.keepIn K (.ref f_LE) = true)
    (aBA : PySem.W.nsIn K mainGlobals "_law_barred" = some (some (.ref f_BA)))
    (lBA : K.lookup f_BA = some ⟨oc_BA, od_BA, .func (PySem.W.fnOf "_law_barred" "_law_barred" (defArgs s_Lbarred) (defBody s_Lbarred) (defScope s_Lbarred) .none kv_BA dc_BA pm_BA an_BA cd_BA ct_BA), sl_BA⟩)
    (cBA : PySem.W.codeIn K cd_BA "_law_barred" = true)
    (kBA : PySem.W.keepIn K (.ref f_BA) = true)
    (aS : PySem.W.nsIn K mainGlobals "_law_shape" = some (some (.ref f_S)))
    (lS : K.lookup f_S = some ⟨oc_S, od_S, .func (PySem.W.fnOf "_law_shape" "_law_shape" (defArgs s_Lshape) (defBody s_Lshape) (defScope s_Lshape) .none kv_S dc_S pm_S an_S cd_S ct_S), sl_S⟩)
    (cS : PySem.W.codeIn K cd_S "_law_shape" = true)
    (kS : PySem.W.keepIn K (.ref f_S) = true)
    (aSB : PySem.W.nsIn K mainGlobals "_law_same_barred" = some (some (.ref f_SB)))
    (lSB : K.lookup f_SB = some ⟨oc_SB, od_SB, .func (PySem.W.fnOf "_law_same_barred" "_law_same_barred" (defArgs s_Lsame_barred) (defBody s_Lsame_barred) (defScope s_Lsame_barred) .none kv_SB dc_SB pm_SB an_SB cd_SB ct_SB), sl_SB⟩)
    (cSB : PySem.W.codeIn K cd_SB "_law_same_barred" = true)
    (kSB : PySem.W.keepIn K (.ref f_SB) = true)
    (aTE : PySem.W.nsIn K mainGlobals "_law_tells" = some (some (.ref f_TE)))
    (lTE : K.lookup f_TE = some ⟨oc_TE, od_TE, .func (PySem.W.fnOf "_law_tells" "_law_tells" (defArgs s_Ltells) (defBody s_Ltells) (defScope s_Ltells) .none kv_TE dc_TE pm_TE an_TE cd_TE ct_TE), sl_TE⟩)
    (cTE : PySem.W.codeIn K cd_TE "_law_tells" = true)
    (kTE : PySem.W.keepIn K (.ref f_TE) = true)
    (aEN : PySem.W.nsIn K mainGlobals "_law_entry" = some (some (.ref f_EN)))
    (lEN : K.lookup f_EN = some ⟨oc_EN, od_EN, .func (PySem.W.fnOf "_law_entry" "_law_entry" (defArgs s_Lentry) (defBody s_Lentry) (defScope s_Lentry) .none kv_EN dc_EN pm_EN an_EN cd_EN ct_EN), sl_EN⟩)
    (cEN : PySem.W.codeIn K cd_EN "_law_entry" = true)
    (kEN : PySem.W.keepIn K (.ref f_EN) = true)
    (aMA : PySem.W.nsIn K mainGlobals "_law_made" = some (some (.ref f_MA)))
    (lMA : K.lookup f_MA = some ⟨oc_MA, od_MA, .func (PySem.W.fnOf "_law_made" "_law_made" (defArgs s_Lmade) (defBody s_Lmade) (defScope s_Lmade) .none kv_MA dc_MA pm_MA an_MA cd_MA ct_MA), sl_MA⟩)
    (cMA : PySem.W.codeIn K cd_MA "_law_made" = true)
    (kMA : PySem.W.keepIn K (.ref f_MA) = true)
    (aLT : PySem.W.nsIn K mainGlobals "_law_letting" = some (some (.ref f_LT)))
    (lLT : K.lookup f_LT = some ⟨oc_LT, od_LT, .func (PySem.W.fnOf "_law_letting" "_law_letting" (defArgs s_Lletting) (defBody s_Lletting) (defScope s_Lletting) .none kv_LT dc_LT pm_LT an_LT cd_LT ct_LT), sl_LT⟩)
    (cLT : PySem.W.codeIn K cd_LT "_law_letting" = true)
    (kLT : PySem.W.keepIn K (.ref f_LT) = true)
    (aRF : PySem.W.nsIn K mainGlobals "_law_refusal" = some (some (.ref f_RF)))
    (lRF : K.lookup f_RF = some ⟨oc_RF, od_RF, .func (PySem.W.fnOf "_law_refusal" "_law_refusal" (defArgs s_Lrefusal) (defBody s_Lrefusal) (defScope s_Lrefusal) .none kv_RF dc_RF pm_RF an_RF cd_RF ct_RF), sl_RF⟩)
    (cRF : PySem.W.codeIn K cd_RF "_law_refusal" = true)
    (kRF : PySem.W.keepIn K (.ref f_RF) = true)
    (aNT : PySem.W.nsIn K mainGlobals "_law_no_tie" = some (some (.ref f_NT)))
    (lNT : K.lookup f_NT = some ⟨oc_NT, od_NT, .func (PySem.W.fnOf "_law_no_tie" "_law_no_tie" (defArgs s_Lno_tie) (defBody s_Lno_tie) (defScope s_Lno_tie) .none kv_NT dc_NT pm_NT an_NT cd_NT ct_NT), sl_NT⟩)
    (cNT : PySem.W.codeIn K cd_NT "_law_no_tie" = true)
    (kNT : PySem.W.keepIn K (.ref f_NT) = true)
    (aV : PySem.W.nsIn K mainGlobals "law" = some (some (.ref f_V)))
    (lV : K.lookup f_V = some ⟨oc_V, od_V, .func (PySem.W.fnOf "law" "law" (defArgs s_law) (defBody s_law) (defScope s_law) .none kv_V dc_V pm_V an_V cd_V ct_V), sl_V⟩)
    (cV : PySem.W.codeIn K cd_V "law" = true)
    (kV : PySem.W.keepIn K (.ref f_V) = true)
    : ∃ fd : FuncData, (∀ (s : Shared) (v : Value), BindsTo s fd ⟨[v], []⟩ [("_law_script", v)]) ∧ ∀ base : Heap, K.In base → base.Ns mainGlobals mg → FnOk l.prog w K mg base CX0 11 fa fd ["_law_script"] (spLaw K) := by
  have e := hfa.symm.trans (PySem.W.mg_of X G aV)
  cases e
  have n_len := PySem.W.mg_none_of X G z_len
  have n_isinstance := PySem.W.mg_none_of X G z_isinstance
  have n_int := PySem.W.mg_none_of X G z_int
  have n_bool := PySem.W.mg_none_of X G z_bool
  have n_list := PySem.W.mg_none_of X G z_list
  have n_tuple := PySem.W.mg_none_of X G z_tuple
  have n_range := PySem.W.mg_none_of X G z_range
  have n_abs := PySem.W.mg_none_of X G z_abs
  have n_enumerate := PySem.W.mg_none_of X G z_enumerate
  have n_all := PySem.W.mg_none_of X G z_all
  have n_zip := PySem.W.mg_none_of X G z_zip
  have n_str := PySem.W.mg_none_of X G z_str
  have n_sorted := PySem.W.mg_none_of X G z_sorted
  have n_set := PySem.W.mg_none_of X G z_set
  have n_min := PySem.W.mg_none_of X G z_min
  have mM := PySem.W.mg_of X G gM
  have FxCB := fun_mk (st := s_BadTies_init) lxCB cxCB kxCB
  have bxCB := FxCB.binds (ps := ["self", "what"]) fun _ _ _ _ _ _ us hl => match us, hl with | [_, _], _ => rfl
  have oCB : OexC K CB := ⟨⟨_, _, _, _, _, _, _, _, _, _, _, _, _, _, _, xCB, by first | rfl | decide +kernel⟩, saCB, exCB, tyCB, kcCB⟩
  have xfCB : XfC K CB := ⟨gaCB, ggCB, exCB, hdCB⟩
  have FxCI := fun_mk (st := s_NoTie_init) lxCI cxCI kxCI
  have bxCI := FxCI.binds (ps := ["self", "tie"]) fun _ _ _ _ _ _ us hl => match us, hl with | [_, _], _ => rfl
  have oCI : OexC K CI := ⟨⟨_, _, _, _, _, _, _, _, _, _, _, _, _, _, _, xCI, by first | rfl | decide +kernel⟩, saCI, exCI, tyCI, kcCI⟩
  have xfCI : XfC K CI := ⟨gaCI, ggCI, exCI, hdCI⟩
  have FxC3 := fun_mk (st := s_NoThree_init) lxC3 cxC3 kxC3
  have bxC3 := FxC3.binds (ps := ["self", "three"]) fun _ _ _ _ _ _ us hl => match us, hl with | [_, _], _ => rfl
  have oC3 : OexC K C3 := ⟨⟨_, _, _, _, _, _, _, _, _, _, _, _, _, _, _, xC3, by first | rfl | decide +kernel⟩, saC3, exC3, tyC3, kcC3⟩
  have xfC3 : XfC K C3 := ⟨gaC3, ggC3, exC3, hdC3⟩
  have FxCE := fun_mk (st := s_BadBook_init) lxCE cxCE kxCE
  have bxCE := FxCE.binds (ps := ["self", "index", "what"]) fun _ _ _ _ _ _ us hl => match us, hl with | [_, _, _], _ => rfl
  have oCE : OexC K CE := ⟨⟨_, _, _, _, _, _, _, _, _, _, _, _, _, _, _, xCE, by first | rfl | decide +kernel⟩, saCE, exCE, tyCE, kcCE⟩
  have xfCE : XfC K CE := ⟨gaCE, ggCE, exCE, hdCE⟩
  have clCT : Cls K CT := ⟨pgCT, hdCT, poCT, saCT⟩
  have iscCT : C8.InsC K CT := ⟨clCT, haCT, hn0, htk0, hmCT, kit_me⟩
  have TC : TiC K CT := ⟨clCT, n0CT, n1CT⟩
  have TX : TiX K mg CT := { toTiC := TC, isc := iscCT, nt := kit_no icCT tyCT suCT, nl := kit_no icCT tyCT slCT, nf := nfCT, mT := PySem.W.mg_of X G aCT }
  have clCK : Cls K CK := ⟨pgCK, hdCK, poCK, saCK⟩
  have iscCK : C8.InsC K CK := ⟨clCK, haCK, hn0, htk0, hmCK, kit_me⟩
  have BC : BoC K CK := ⟨clCK, n0CK, n1CK, n2CK, n3CK⟩
  have BX : BoX K mg CK := { toBoC := BC, isc := iscCK, mB := PySem.W.mg_of X G aCK, ni := kit_no icCK tyCK siCK }
  have RB : ClX.CRead K CK (.type "type") := ⟨rdCK, gtCK⟩
  have XCCE : ExcC K CE := ⟨gaCE, ggCE, exCE, hdCE, haCE, hn0, htk0, hmCE⟩
  have kgCE : PySem.W.kitOne K (.ref CE) (.ref GE) = some true := kit_yes icGE tyGE suGECE
  have XCCI : ExcC K CI := ⟨gaCI, ggCI, exCI, hdCI, haCI, hn0, htk0, hmCI⟩
  have kgCI : PySem.W.kitOne K (.ref CI) (.ref GE) = some true := kit_yes icGE tyGE suGECI
  have FW := fun_mk (st := s_is_whole) lW cW kW
  have bW := FW.binds (ps := ["thing", "low", "high"]) fun _ _ _ _ _ _ us hl => match us, hl with | [_, _, _], _ => rfl
  have FQ := fun_mk (st := s_is_sequence) lQ cQ kQ
  have bQ := FQ.binds (ps := ["thing"]) fun _ _ _ _ _ _ us hl => match us, hl with | [_], _ => rfl
  have FTF := fun_mk (st := s_ties_fault) lTF cTF kTF
  have bTF := FTF.binds (ps := ["backs"]) fun _ _ _ _ _ _ us hl => match us, hl with | [_], _ => rfl
  have FtI := fun_mk (st := s_Ties_init) ltI ctI ktI
  have btI := FtI.binds (ps := ["self", "backs"]) fun _ _ _ _ _ _ us hl => match us, hl with | [_, _], _ => rfl
  have FtE := fun_mk (st := s_Ties_eq) ltE ctE ktE
  have btE := FtE.binds (ps := ["self", "other"]) fun _ _ _ _ _ _ us hl => match us, hl with | [_, _], _ => rfl
  have FtH := fun_mk (st := s_Ties_has) ltH ctH ktH
  have btH := FtH.binds (ps := ["self", "thing"]) fun _ _ _ _ _ _ us hl => match us, hl with | [_, _], _ => rfl
  have FtB := fun_mk (st := s_Ties_back) ltB ctB ktB
  have btB := FtB.binds (ps := ["self", "tie"]) fun _ _ _ _ _ _ us hl => match us, hl with | [_, _], _ => rfl
  have FI3 := fun_mk (st := s_is_three) lI3 cI3 kI3
  have bI3 := FI3.binds (ps := ["ties", "thing"]) fun _ _ _ _ _ _ us hl => match us, hl with | [_, _], _ => rfl
  have FRO := fun_mk (st := s_readings_of) lRO cRO kRO
  have bRO := FRO.binds (ps := ["ties", "three"]) fun _ _ _ _ _ _ us hl => match us, hl with | [_, _], _ => rfl
  have FLR := fun_mk (st := s_least_reading) lLR cLR kLR
  have bLR := FLR.binds (ps := ["ties", "three"]) fun _ _ _ _ _ _ us hl => match us, hl with | [_, _], _ => rfl
  have FAT := fun_mk (st := s_all_threes) lAT cAT kAT
  have bAT := FAT.binds (ps := ["ties"]) fun _ _ _ _ _ _ us hl => match us, hl with | [_], _ => rfl
  have FCH := fun_mk (st := s_check_threes) lCH cCH kCH
  have bCH := FCH.binds (ps := ["ties", "threes", "word"]) fun _ _ _ _ _ _ us hl => match us, hl with | [_, _, _], _ => rfl
  have FWR := fun_mk (st := s_with_readings) lWR cWR kWR
  have bWR := FWR.binds (ps := ["ties", "threes"]) fun _ _ _ _ _ _ us hl => match us, hl with | [_, _], _ => rfl
  have FBU := fun_mk (st := s_but) lBU cBU kBU
  have bBU := FBU.binds (ps := ["threes", "others"]) fun _ _ _ _ _ _ us hl => match us, hl with | [_, _], _ => rfl
  have FBT := fun_mk (st := s_bar_table) lBT cBT kBT
  have bBT := FBT.binds (ps := ["ties", "barred"]) fun _ _ _ _ _ _ us hl => match us, hl with | [_, _], _ => rfl
  have FbI := fund_mk1 (st := s_Book_init) lbI lTbI cbI kbI
  have bbI := fund_full1 (ps := ["self", "ties", "barred"]) FbI
    fun _ _ _ _ _ _ _ us its hl hi => match us, its, hl, hi with | [_, _, _], [_], _, _ => ⟨_, rfl, rfl⟩
  have bbD := fund_dfl1 (ps := ["self", "ties", "barred"]) FbI rfl
    fun _ _ _ _ _ _ _ us its hl hi => match us, its, hl, hi with | [_, _], [_], _, _ => ⟨_, rfl, rfl⟩
  have ktE : KT K e1bI := ⟨_, #[], nEbI, lEbI, rfl, rfl, by decide, .nil⟩
  have Fle := fun_mk (st := s_Book_letting) lle cle kle
  have ble := Fle.binds (ps := ["ties", "threes"]) fun _ _ _ _ _ _ us hl => match us, hl with | [_, _], _ => rfl
  have CS : CSta K CK (.type "type") "letting" pL f_le := ⟨ale, ⟨_, rle⟩, kle⟩
  have FbE := fun_mk (st := s_Book_eq) lbE cbE kbE
  have bbE := FbE.binds (ps := ["self", "other"]) fun _ _ _ _ _ _ us hl => match us, hl with | [_, _], _ => rfl
  have Fce := fun_mk (st := s_check_each) lce cce kce
  have bce := Fce.binds (ps := ["self", "ties"]) fun _ _ _ _ _ _ us hl => match us, hl with | [_, _], _ => rfl
  have Fbb := fun_mk (st := s_Book_bars) lbb cbb kbb
  have bbb := Fbb.binds (ps := ["self", "p", "q", "r"]) fun _ _ _ _ _ _ us hl => match us, hl with | [_, _, _, _], _ => rfl
  have Fbf := fun_mk (st := s_Book_fitting) lbf cbf kbf
  have bbf := Fbf.binds (ps := ["self", "p", "q"]) fun _ _ _ _ _ _ us hl => match us, hl with | [_, _, _], _ => rfl
  have Fbr := fun_mk (st := s_Book_barring) lbr cbr kbr
  have bbr := Fbr.binds (ps := ["self", "t"]) fun _ _ _ _ _ _ us hl => match us, hl with | [_, _], _ => rfl
  have FX := fun_mk (st := s_Lmix) lX cX kX
  have bX := FX.binds (ps := ["_law_number", "_law_turn"]) fun _ _ _ _ _ _ us hl => match us, hl with | [_, _], _ => rfl
  have FH := fun_mk (st := s_Lhand) lH cH kH
  have bH := FH.binds (ps := ["_law_script"]) fun _ _ _ _ _ _ us hl => match us, hl with | [_], _ => rfl
  have FD := fun_mk (st := s_Ldraw) lD cD kD
  have bD := FD.binds (ps := ["_law_hand_here", "_law_many"]) fun _ _ _ _ _ _ us hl => match us, hl with | [_, _], _ => rfl
  have FP := fun_mk (st := s_Lpick) lP cP kP
  have bP := FP.binds (ps := ["_law_hand_here", "_law_things"]) fun _ _ _ _ _ _ us hl => match us, hl with | [_, _], _ => rfl
  have FK := fun_mk (st := s_Lbacks) lK cK kK
  have bK := FK.binds (ps := ["_law_hand_here", "_law_many"]) fun _ _ _ _ _ _ us hl => match us, hl with | [_, _], _ => rfl
  have FN := fun_mk (st := s_Lplain) lN cN kN
  have bN := FN.binds (ps := ["_law_answer", "_law_due"]) fun _ _ _ _ _ _ us hl => match us, hl with | [_, _], _ => rfl
  have FRD := fun_mk (st := s_Lreadings) lRD cRD kRD
  have bRD := FRD.binds (ps := ["_law_backs_here", "_law_p", "_law_q", "_law_r"]) fun _ _ _ _ _ _ us hl => match us, hl with | [_, _, _, _], _ => rfl
  have FLC := fun_mk (st := s_Lclasses) lLC cLC kLC
  have bLC := FLC.binds (ps := ["_law_backs_here"]) fun _ _ _ _ _ _ us hl => match us, hl with | [_], _ => rfl
  have FLE := fun_mk (st := s_Llet) lLE cLE kLE
  have bLE := FLE.binds (ps := ["_law_backs_here", "_law_classes_here"]) fun _ _ _ _ _ _ us hl => match us, hl with | [_, _], _ => rfl
  have FBA := fun_mk (st := s_Lbarred) lBA cBA kBA
  have bBA := FBA.binds (ps := ["_law_world"]) fun _ _ _ _ _ _ us hl => match us, hl with | [_], _ => rfl
  have FS := fun_mk (st := s_Lshape) lS cS kS
  have bS := FS.binds (ps := ["_law_hand_here", "_law_row"]) fun _ _ _ _ _ _ us hl => match us, hl with | [_, _], _ => rfl
  have FSB := fun_mk (st := s_Lsame_barred) lSB cSB kSB
  have bSB := FSB.binds (ps := ["_law_book", "_law_world"]) fun _ _ _ _ _ _ us hl => match us, hl with | [_, _], _ => rfl
  have FTE := fun_mk (st := s_Ltells) lTE cTE kTE
  have bTE := FTE.binds (ps := ["_law_book", "_law_world"]) fun _ _ _ _ _ _ us hl => match us, hl with | [_, _], _ => rfl
  have FEN := fun_mk (st := s_Lentry) lEN cEN kEN
  have bEN := FEN.binds (ps := ["_law_hand_here", "_law_many"]) fun _ _ _ _ _ _ us hl => match us, hl with | [_, _], _ => rfl
  have FMA := fun_mk (st := s_Lmade) lMA cMA kMA
  have bMA := FMA.binds (ps := ["_law_ties", "_law_things"]) fun _ _ _ _ _ _ us hl => match us, hl with | [_, _], _ => rfl
  have FLT := fun_mk (st := s_Lletting) lLT cLT kLT
  have bLT := FLT.binds (ps := ["_law_ties", "_law_things"]) fun _ _ _ _ _ _ us hl => match us, hl with | [_, _], _ => rfl
  have FRF := fun_mk (st := s_Lrefusal) lRF cRF kRF
  have bRF := FRF.binds (ps := ["_law_call", "_law_ties", "_law_things"]) fun _ _ _ _ _ _ us hl => match us, hl with | [_, _, _], _ => rfl
  have FNT := fun_mk (st := s_Lno_tie) lNT cNT kNT
  have bNT := FNT.binds (ps := ["_law_book", "_law_odd", "_law_tie", "_law_way"]) fun _ _ _ _ _ _ us hl => match us, hl with | [_, _, _, _], _ => rfl
  have FV := fun_mk (st := s_law) lV cV kV
  have bV := FV.binds (ps := ["_law_script"]) fun _ _ _ _ _ _ us hl => match us, hl with | [_], _ => rfl
  refine ⟨PySem.W.fnOf "law" "law" (defArgs s_law) (defBody s_law) (defScope s_law) .none kv_V dc_V pm_V an_V cd_V ct_V, fun s v => .of_eq rfl, fun base KB GB => ?_⟩
  have ECB : Ex l.prog w K mg base "BadTies" "what" CB f_xCB _ ["self", "what"] := ⟨oCB, axCB, ixCB, ok_BadTies_init FxCB oCB no0CB, bxCB, PySem.W.mg_of X G aCB, xfCB, no0CB, exm_own exCB icCB tyCB scCB⟩
  have ECI : Ex l.prog w K mg base "NoTie" "tie" CI f_xCI _ ["self", "tie"] := ⟨oCI, axCI, ixCI, ok_NoTie_init FxCI oCI no0CI, bxCI, PySem.W.mg_of X G aCI, xfCI, no0CI, exm_own exCI icCI tyCI scCI⟩
  have EC3 : Ex l.prog w K mg base "NoThree" "three" C3 f_xC3 _ ["self", "three"] := ⟨oC3, axC3, ixC3, ok_NoThree_init FxC3 oC3 no0C3, bxC3, PySem.W.mg_of X G aC3, xfC3, no0C3, exm_own exC3 icC3 tyC3 scC3⟩
  have ECE : Ex2 l.prog w K mg base "BadBook" "index" "what" CE f_xCE _ ["self", "index", "what"] := ⟨oCE, axCE, ixCE, ok_BadBook_init FxCE oCE no0CE no1CE, bxCE, PySem.W.mg_of X G aCE, xfCE, no0CE, no1CE, exm_own exCE icCE tyCE scCE⟩
  have GW : Cal l.prog w K mg base CX0 1 "is_whole" f_W _ ["thing", "low", "high"] spWhole := ⟨ok_is_whole FW n_isinstance n_int n_bool, PySem.W.mg_of X G aW, kW, bW⟩
  have GQ : Cal l.prog w K mg base CX0 1 "is_sequence" f_Q _ ["thing"] spSeq := ⟨ok_is_sequence FQ n_isinstance n_list n_tuple, PySem.W.mg_of X G aQ, kQ, bQ⟩
  have GQK : Cal l.prog w K mg base CX0 1 "is_sequence" f_Q _ ["thing"] (spSeqK K) := ⟨ok_is_sequenceK FQ n_isinstance n_list n_tuple, PySem.W.mg_of X G aQ, kQ, bQ⟩
  have GTF : Cal l.prog w K mg base CX0 2 "ties_fault" f_TF _ ["backs"] spFault := ⟨ok_ties_fault FTF n_len n_range n_all ⟨_, mM⟩ GQ GW, PySem.W.mg_of X G aTF, kTF, bTF⟩
  have MIT : Mk K CT f_tI := ⟨mkCT, atI, itI, kcCT⟩
  have FIT := ok_Ties_init (P := l.prog) (w := w) (base := base) FtI TC n_len n_tuple GTF ECB
  have FET := ok_Ties_eq (P := l.prog) (w := w) (base := base) FtE TX n_isinstance
  have MtH : Mt l.prog w K mg base CX0 2 CT "has" f_tH _ ["self", "thing"] (spHas CT) := ⟨⟨atH, itH, ktH⟩, ok_Ties_has FtH TC GW, btH⟩
  have MtB : Mt l.prog w K mg base (L2.CX l.prog w) 3 CT "back" f_tB _ ["self", "tie"] (spBack CT CI) := ⟨⟨atB, itB, ktB⟩, ok_Ties_back FtB TC MtH ECI, btB⟩
  have GI3 : Cal l.prog w K mg base CX0 3 "is_three" f_I3 _ ["ties", "thing"] (spThree CT) := ⟨ok_is_three FI3 TC n_len n_all GQ MtH, PySem.W.mg_of X G aI3, kI3, bI3⟩
  have GRO : Cal l.prog w K mg base (L2.CX l.prog w) 4 "readings_of" f_RO _ ["ties", "three"] (spReadings CT C3) := ⟨ok_readings_of FRO TC n_tuple n_sorted n_set GI3 MtB EC3, PySem.W.mg_of X G aRO, kRO, bRO⟩
  have GLR : Cal l.prog w K mg base (L2.CX l.prog w) 5 "least_reading" f_LR _ ["ties", "three"] (spLeast CT C3) := ⟨ok_least_reading FLR GRO, PySem.W.mg_of X G aLR, kLR, bLR⟩
  have GAT : Cal l.prog w K mg base CX0 1 "all_threes" f_AT _ ["ties"] (spAll CT) := ⟨ok_all_threes FAT TC n_tuple n_range, PySem.W.mg_of X G aAT, kAT, bAT⟩
  have GCH : Cal l.prog w K mg base (L2.CX l.prog w) 4 "_check_threes" f_CH _ ["ties", "threes", "word"] (spChk CT CE) := ⟨ok_check_threes FCH TX n_isinstance n_enumerate GQ GI3 ECE, PySem.W.mg_of X G aCH, kCH, bCH⟩
  have GCHK : Cal l.prog w K mg base (L2.CX l.prog w) 4 "_check_threes" f_CH _ ["ties", "threes", "word"] (spChkK K CT) := ⟨ok_check_threesK FCH TX n_isinstance n_enumerate GQK GI3 ECE, PySem.W.mg_of X G aCH, kCH, bCH⟩
  have GWR : Cal l.prog w K mg base CX0 5 "_with_readings" f_WR _ ["ties", "threes"] (spWith CT) := ⟨ok_with_readings FWR n_tuple n_sorted GRO, PySem.W.mg_of X G aWR, kWR, bWR⟩
  have GWRK : Cal l.prog w K mg base CX0 5 "_with_readings" f_WR _ ["ties", "threes"] (spWithK K CT) := ⟨ok_with_readingsK FWR n_tuple n_sorted GRO, PySem.W.mg_of X G aWR, kWR, bWR⟩
  have GBU : Cal l.prog w K mg base CX0 1 "_but" f_BU _ ["threes", "others"] spBut := ⟨ok_but FBU, PySem.W.mg_of X G aBU, kBU, bBU⟩
  have GBT : Cal l.prog w K mg base CX0 1 "_bar_table" f_BT _ ["ties", "barred"] (spTab CT) := ⟨ok_bar_table FBT TC n_tuple n_range, PySem.W.mg_of X G aBT, kBT, bBT⟩
  have MIB : Mk K CK f_bI := ⟨mkCK, abI, ibI, kcCK⟩
  have FIB := ok_Book_init (P := l.prog) (w := w) (base := base) FbI BC n_tuple GCH GWR GLR GBT GCHK GWRK
  have FLEB := ok_Book_letting (P := l.prog) (w := w) (base := base) Fle (PySem.W.mg_of X G aCK) MIB GCH GBU GAT GWR FIB bbI
  have FEB := ok_Book_eq (P := l.prog) (w := w) (base := base) FbE TX BX n_isinstance FET atE itE btE
  have Mce : Mt l.prog w K mg base (L2.CX l.prog w) 3 CK "_check_each" f_ce _ ["self", "ties"] (spEach CT CK CI) := ⟨⟨ace, ice, kce⟩, ok_check_each Fce TC BC MtH ECI, bce⟩
  have Mbb : Mt l.prog w K mg base (L2.CX l.prog w) 4 CK "bars" f_bb _ ["self", "p", "q", "r"] (spBars CT CK CI) := ⟨⟨abb, ibb, kbb⟩, ok_Book_bars Fbb BC Mce, bbb⟩
  have Mbf : Mt l.prog w K mg base (L2.CX l.prog w) 4 CK "fitting" f_bf _ ["self", "p", "q"] (spFit CT CK CI) := ⟨⟨abf, ibf, kbf⟩, ok_Book_fitting Fbf TC BC n_tuple n_range Mce, bbf⟩
  have Mbr : Mt l.prog w K mg base (L2.CX l.prog w) 4 CK "barring" f_br _ ["self", "t"] (spBarring CT CK CI) := ⟨⟨abr, ibr, kbr⟩, ok_Book_barring Fbr BC n_tuple Mce, bbr⟩
  have GX : Cal l.prog w K mg base CX0 1 "_law_mix" f_X _ ["_law_number", "_law_turn"] spMix := ⟨ok_Lmix FX n_int, PySem.W.mg_of X G aX, kX, bX⟩
  have GH : Cal l.prog w K mg base CX0 1 "_law_hand" f_H _ ["_law_script"] (spHand K) := ⟨ok_Lhand FH n_int n_abs n_enumerate, PySem.W.mg_of X G aH, kH, bH⟩
  have GD : Cal l.prog w K mg base CX0 2 "_law_draw" f_D _ ["_law_hand_here", "_law_many"] spDraw := ⟨ok_Ldraw FD n_int n_len GX, PySem.W.mg_of X G aD, kD, bD⟩
  have GP : Cal l.prog w K mg base CX0 3 "_law_pick" f_P _ ["_law_hand_here", "_law_things"] spPick := ⟨ok_Lpick FP n_len GD, PySem.W.mg_of X G aP, kP, bP⟩
  have GK : Cal l.prog w K mg base CX0 3 "_law_backs" f_K _ ["_law_hand_here", "_law_many"] spBacks := ⟨ok_Lbacks FK n_list n_len n_range GD, PySem.W.mg_of X G aK, kK, bK⟩
  have GNo : Cal l.prog w K mg base CX0 0 "_law_plain" f_N _ ["_law_answer", "_law_due"] spNo := ⟨fn_no, PySem.W.mg_of X G aN, kN, bN⟩
  have GN0 : Cal l.prog w K mg base CX0 1 "_law_plain" f_N _ ["_law_answer", "_law_due"] spP0 := ⟨ok_Lplain0 FN n_isinstance n_tuple n_len n_zip n_bool n_int n_str GNo, PySem.W.mg_of X G aN, kN, bN⟩
  have GN1 : Cal l.prog w K mg base CX0 2 "_law_plain" f_N _ ["_law_answer", "_law_due"] spP1 := ⟨ok_Lplain1 FN n_isinstance n_tuple n_len n_zip n_bool n_int n_str GN0, PySem.W.mg_of X G aN, kN, bN⟩
  have GN2 : Cal l.prog w K mg base CX0 3 "_law_plain" f_N _ ["_law_answer", "_law_due"] spP2 := ⟨ok_Lplain2 FN n_isinstance n_tuple n_len n_zip n_bool n_int n_str GN1, PySem.W.mg_of X G aN, kN, bN⟩
  have FPO := ok_LplainS (P := l.prog) (w := w) (base := base) FN n_isinstance n_tuple n_bool n_int n_str
  have GRD : Cal l.prog w K mg base CX0 1 "_law_readings" f_RD _ ["_law_backs_here", "_law_p", "_law_q", "_law_r"] spLR := ⟨ok_Lreadings FRD, PySem.W.mg_of X G aRD, kRD, bRD⟩
  have GLC : Cal l.prog w K mg base CX0 2 "_law_classes" f_LC _ ["_law_backs_here"] spLC := ⟨ok_Lclasses FLC n_len n_range n_min GRD, PySem.W.mg_of X G aLC, kLC, bLC⟩
  have GLE : Cal l.prog w K mg base CX0 2 "_law_let" f_LE _ ["_law_backs_here", "_law_classes_here"] spLL := ⟨ok_Llet FLE n_len n_range GRD, PySem.W.mg_of X G aLE, kLE, bLE⟩
  have GBA : Cal l.prog w K mg base CX0 1 "_law_barred" f_BA _ ["_law_world"] spLB := ⟨ok_Lbarred FBA n_len n_range, PySem.W.mg_of X G aBA, kBA, bBA⟩
  have GS : Cal l.prog w K mg base CX0 3 "_law_shape" f_S _ ["_law_hand_here", "_law_row"] spShape2 := ⟨ok_Lshape2 FS n_list n_tuple GD, PySem.W.mg_of X G aS, kS, bS⟩
  have GSB : Cal l.prog w K mg base CX0 4 "_law_same_barred" f_SB _ ["_law_book", "_law_world"] (spLS CT CK) := ⟨ok_Lsame_barred FSB TC BX n_isinstance n_tuple GBA GN2 GN1, PySem.W.mg_of X G aSB, kSB, bSB⟩
  have GTE : Cal l.prog w K mg base CX0 5 "_law_tells" f_TE _ ["_law_book", "_law_world"] (spLS CT CK) := ⟨ok_Ltells FTE BC n_tuple n_len n_range Mbf Mbb Mbr GN2 GN1 GN0, PySem.W.mg_of X G aTE, kTE, bTE⟩
  have GEN : Cal l.prog w K mg base CX0 4 "_law_entry" f_EN _ ["_law_hand_here", "_law_many"] spEnt := ⟨ok_Lentry FEN GD GP, PySem.W.mg_of X G aEN, kEN, bEN⟩
  have GMA : Cal l.prog w K mg base (L2.CX l.prog w) 9 "_law_made" f_MA _ ["_law_ties", "_law_things"] (spBadB CT CE "barred") := ⟨ok_Lmade FMA (PySem.W.mg_of X G aCK) MIB FIB bbI, PySem.W.mg_of X G aMA, kMA, bMA⟩
  have GLT : Cal l.prog w K mg base (L2.CX l.prog w) 9 "_law_letting" f_LT _ ["_law_ties", "_law_things"] (spBadB CT CE "threes") := ⟨ok_Lletting FLT (PySem.W.mg_of X G aCK) RB CS FLEB ble, PySem.W.mg_of X G aLT, kLT, bLT⟩
  have GRF : Cal l.prog w K mg base CX0 10 "_law_refusal" f_RF _ ["_law_call", "_law_ties", "_law_things"] (spRefu CT f_MA f_LT) := ⟨ok_Lrefusal FRF n_isinstance n_bool GMA GLT ECE XCCE (PySem.W.mg_of X G aGE) kgCE, PySem.W.mg_of X G aRF, kRF, bRF⟩
  have GNT : Cal l.prog w K mg base CX0 5 "_law_no_tie" f_NT _ ["_law_book", "_law_odd", "_law_tie", "_law_way"] (spNoT CT CK) := ⟨ok_Lno_tie FNT BC n_isinstance Mbf Mbb Mbr FPO (PySem.W.mg_of X G aN) kN bN ECI XCCI (PySem.W.mg_of X G aGE) kgCI, PySem.W.mg_of X G aNT, kNT, bNT⟩
  exact ok_law FV n_range n_enumerate n_isinstance n_list n_tuple GH GP GK (PySem.W.mg_of X G aCT) MIT FIT btI GD GEN (PySem.W.mg_of X G aMA) kMA (PySem.W.mg_of X G aLT) kLT GRF GLE GS (PySem.W.mg_of X G aCK) MIB FIB bbI bbD ktE RB CS FLEB ble BC GLC GSB GN2 GBA GTE GRD FEB abE ibE bbE nfCK niCK GNT
theorem walk {l : PySem.W.OpenLaw} {q : Program} {loose : List Str} {XP : (Str → Option Value) → Heap → Prop} {YP : World → Heap → Prop} {d : DefRec} {K : Params → PySem.W.Frag} (hn : l.most = some 63) (hdf : d.params.defaults = [])
    (hY : ∀ (w : World) (h : Heap), YP w h → (K w.params).In h)
    (F : ∀ (w : World) (mg : Str → Option Value) (fa : Addr) (h : Heap), (K w.params).In h → h.Ns mainGlobals mg → mg d.name = some (.ref fa) →
      ∃ fd : FuncData, (∀ (s : Shared) (u : Value), BindsTo s fd ⟨[u], []⟩ [("_law_script", u)]) ∧ ∀ base : Heap, (K w.params).In base → base.Ns mainGlobals mg → FnOk l.prog w (K w.params) mg base CX0 11 fa fd ["_law_script"] (spLaw (K w.params))) :
    PySem.W.WalkO q loose XP YP l.row.toRowW d [] (fun f vs => PySem.call f vs) :=
  L2.walk_of (n := 63) (k := 11) (x := "_law_script") (CX := fun _ => CX0) (sp := fun w => spLaw (K w.params)) hn (by decide) hdf ⟨rfl, by decide, by decide⟩ hY F (fun _ _ a ns hl _ hS => ⟨a, ns, rfl, hS, hl, fun _ => rfl⟩) fun _ _ _ _ _ z => z
end J

set_option Elab.async false
open PySem PySem.W PyProof.Rows in
set_option maxRecDepth 100000 in
set_option maxHeartbeats 0 in
theorem PySem.Challenge.cw_joinedguests_k10_books_made_and_refused_holds : PySem.Challenge.rw_joinedguests_k10_books_made_and_refused.Holds := by
  w_on; o_law; k_head; (case hw => w_witness2)
  k_fill
  refine J.walk (l := PySem.Challenge.rw_joinedguests_k10_books_made_and_refused) rfl rfl (fun w h Y => PySem.W.kIn_of Y) ?F
  case F =>
    intro w mg fa h KX G hmg
    refine' J.all_mk KX G hmg ?z_len ?z_isinstance ?z_int ?z_bool ?z_list ?z_tuple ?z_range ?z_abs ?z_enumerate ?z_all ?z_zip ?z_str ?z_sorted ?z_set ?z_min ?gM ?aCB ?axCB ?ixCB ?lxCB ?cxCB ?kxCB ?xCB ?saCB ?gaCB ?ggCB ?no0CB ?kcCB ?exCB ?tyCB ?hdCB ?icCB ?scCB ?aCI ?axCI ?ixCI ?lxCI ?cxCI ?kxCI ?xCI ?saCI ?gaCI ?ggCI ?no0CI ?kcCI ?exCI ?tyCI ?hdCI ?icCI ?scCI ?aC3 ?axC3 ?ixC3 ?lxC3 ?cxC3 ?kxC3 ?xC3 ?saC3 ?gaC3 ?ggC3 ?no0C3 ?kcC3 ?exC3 ?tyC3 ?hdC3 ?icC3 ?scC3 ?aCE ?axCE ?ixCE ?lxCE ?cxCE ?kxCE ?xCE ?saCE ?gaCE ?ggCE ?no0CE ?no1CE ?kcCE ?exCE ?tyCE ?hdCE ?icCE ?scCE ?aCT ?pgCT ?hdCT ?poCT ?saCT ?mkCT ?kcCT ?n0CT ?n1CT ?haCT ?hn0 ?htk0 ?hmCT ?icCT ?tyCT ?suCT ?nfCT ?slCT ?aCK ?pgCK ?hdCK ?poCK ?saCK ?mkCK ?kcCK ?n0CK ?n1CK ?n2CK ?n3CK ?haCK ?hmCK ?icCK ?tyCK ?suCK ?nfCK ?siCK ?niCK ?rdCK ?gtCK ?aGE ?icGE ?tyGE ?suGECE ?haCE ?hmCE ?suGECI ?haCI ?hmCI ?aW ?lW ?cW ?kW ?aQ ?lQ ?cQ ?kQ ?aTF ?lTF ?cTF ?kTF ?atI ?itI ?ltI ?ctI ?ktI ?atE ?itE ?ltE ?ctE ?ktE ?atH ?itH ?ltH ?ctH ?ktH ?atB ?itB ?ltB ?ctB ?ktB ?aI3 ?lI3 ?cI3 ?kI3 ?aRO ?lRO ?cRO ?kRO ?aLR ?lLR ?cLR ?kLR ?aAT ?lAT ?cAT ?kAT ?aCH ?lCH ?cCH ?kCH ?aWR ?lWR ?cWR ?kWR ?aBU ?lBU ?cBU ?kBU ?aBT ?lBT ?cBT ?kBT ?abI ?ibI ?lbI ?lTbI ?lEbI ?cbI ?kbI ?ale ?rle ?lle ?cle ?kle ?abE ?ibE ?lbE ?cbE ?kbE ?ace ?ice ?lce ?cce ?kce ?abb ?ibb ?lbb ?cbb ?kbb ?abf ?ibf ?lbf ?cbf ?kbf ?abr ?ibr ?lbr ?cbr ?kbr ?aX ?lX ?cX ?kX ?aH ?lH ?cH ?kH ?aD ?lD ?cD ?kD ?aP ?lP ?cP ?kP ?aK ?lK ?cK ?kK ?aN ?lN ?cN ?kN ?aRD ?lRD ?cRD ?kRD ?aLC ?lLC ?cLC ?kLC ?aLE ?lLE ?cLE ?kLE ?aBA ?lBA ?cBA ?kBA ?aS ?lS ?cS ?kS ?aSB ?lSB ?cSB ?kSB ?aTE ?lTE ?cTE ?kTE ?aEN ?lEN ?cEN ?kEN ?aMA ?lMA ?cMA ?kMA ?aLT ?lLT ?cLT ?kLT ?aRF ?lRF ?cRF ?kRF ?aNT ?lNT ?cNT ?kNT ?aV ?lV ?cV ?kV
    (case z_len => k_is)
    (case z_isinstance => k_is)
    (case z_int => k_is)
    (case z_bool => k_is)
    (case z_list => k_is)
    (case z_tuple => k_is)
    (case z_range => k_is)
    (case z_abs => k_is)
    (case z_enumerate => k_is)
    (case z_all => k_is)
    (case z_zip => k_is)
    (case z_str => k_is)
    (case z_sorted => k_is)
    (case z_set => k_is)
    (case z_min => k_is)
    (case gM => k_is)
    (case aCB => k_is)
    (case axCB => k_is)
    (case ixCB => k_is)
    (case lxCB => k_is)
    (case cxCB => k_is)
    (case kxCB => k_is)
    (case xCB => k_is)
    (case saCB => k_is)
    (case gaCB => k_is)
    (case ggCB => k_is)
    (case no0CB => k_is)
    (case kcCB => k_is)
    (case exCB => k_is)
    (case tyCB => k_is)
    (case hdCB => k_is)
    (case icCB => k_is)
    (case scCB => first | rfl | k_is)
    (case aCI => k_is)
    (case axCI => k_is)
    (case ixCI => k_is)
    (case lxCI => k_is)
    (case cxCI => k_is)
    (case kxCI => k_is)
    (case xCI => k_is)
    (case saCI => k_is)
    (case gaCI => k_is)
    (case ggCI => k_is)
    (case no0CI => k_is)
    (case kcCI => k_is)
    (case exCI => k_is)
    (case tyCI => k_is)
    (case hdCI => k_is)
    (case icCI => k_is)
    (case scCI => first | rfl | k_is)
    (case aC3 => k_is)
    (case axC3 => k_is)
    (case ixC3 => k_is)
    (case lxC3 => k_is)
    (case cxC3 => k_is)
    (case kxC3 => k_is)
    (case xC3 => k_is)
    (case saC3 => k_is)
    (case gaC3 => k_is)
    (case ggC3 => k_is)
    (case no0C3 => k_is)
    (case kcC3 => k_is)
    (case exC3 => k_is)
    (case tyC3 => k_is)
    (case hdC3 => k_is)
    (case icC3 => k_is)
    (case scC3 => first | rfl | k_is)
    (case aCE => k_is)
    (case axCE => k_is)
    (case ixCE => k_is)
    (case lxCE => k_is)
    (case cxCE => k_is)
    (case kxCE => k_is)
    (case xCE => k_is)
    (case saCE => k_is)
    (case gaCE => k_is)
    (case ggCE => k_is)
    (case no0CE => k_is)
    (case no1CE => k_is)
    (case kcCE => k_is)
    (case exCE => k_is)
    (case tyCE => k_is)
    (case hdCE => k_is)
    (case icCE => k_is)
    (case scCE => first | rfl | k_is)
    (case aCT => k_is)
    (case pgCT => k_is)
    (case hdCT => k_is)
    (case poCT => k_is)
    (case saCT => k_is)
    (case mkCT => k_is)
    (case kcCT => k_is)
    (case n0CT => k_is)
    (case n1CT => k_is)
    (case haCT => k_is)
    (case hn0 => k_is)
    (case htk0 => k_is)
    (case hmCT => k_is)
    (case icCT => k_is)
    (case tyCT => k_is)
    (case suCT => k_is)
    (case nfCT => k_is)
    (case slCT => k_is)
    (case aCK => k_is)
    (case pgCK => k_is)
    (case hdCK => k_is)
    (case poCK => k_is)
    (case saCK => k_is)
    (case mkCK => k_is)
    (case kcCK => k_is)
    (case n0CK => k_is)
    (case n1CK => k_is)
    (case n2CK => k_is)
    (case n3CK => k_is)
    (case haCK => k_is)
    (case hmCK => k_is)
    (case icCK => k_is)
    (case tyCK => k_is)
    (case suCK => k_is)
    (case nfCK => k_is)
    (case siCK => k_is)
    (case niCK => k_is)
    (case rdCK => k_is)
    (case gtCK => k_is)
    (case aGE => k_is)
    (case icGE => k_is)
    (case tyGE => k_is)
    (case suGECE => k_is)
    (case haCE => k_is)
    (case hmCE => k_is)
    (case suGECI => k_is)
    (case haCI => k_is)
    (case hmCI => k_is)
    (case aW => k_is)
    (case lW => k_is)
    (case cW => k_is)
    (case kW => k_is)
    (case aQ => k_is)
    (case lQ => k_is)
    (case cQ => k_is)
    (case kQ => k_is)
    (case aTF => k_is)
    (case lTF => k_is)
    (case cTF => k_is)
    (case kTF => k_is)
    (case atI => k_is)
    (case itI => k_is)
    (case ltI => k_is)
    (case ctI => k_is)
    (case ktI => k_is)
    (case atE => k_is)
    (case itE => k_is)
    (case ltE => k_is)
    (case ctE => k_is)
    (case ktE => k_is)
    (case atH => k_is)
    (case itH => k_is)
    (case ltH => k_is)
    (case ctH => k_is)
    (case ktH => k_is)
    (case atB => k_is)
    (case itB => k_is)
    (case ltB => k_is)
    (case ctB => k_is)
    (case ktB => k_is)
    (case aI3 => k_is)
    (case lI3 => k_is)
    (case cI3 => k_is)
    (case kI3 => k_is)
    (case aRO => k_is)
    (case lRO => k_is)
    (case cRO => k_is)
    (case kRO => k_is)
    (case aLR => k_is)
    (case lLR => k_is)
    (case cLR => k_is)
    (case kLR => k_is)
    (case aAT => k_is)
    (case lAT => k_is)
    (case cAT => k_is)
    (case kAT => k_is)
    (case aCH => k_is)
    (case lCH => k_is)
    (case cCH => k_is)
    (case kCH => k_is)
    (case aWR => k_is)
    (case lWR => k_is)
    (case cWR => k_is)
    (case kWR => k_is)
    (case aBU => k_is)
    (case lBU => k_is)
    (case cBU => k_is)
    (case kBU => k_is)
    (case aBT => k_is)
    (case lBT => k_is)
    (case cBT => k_is)
    (case kBT => k_is)
    (case abI => k_is)
    (case ibI => k_is)
    (case lbI => k_is)
    (case lTbI => k_is)
    (case lEbI => k_is)
    (case cbI => k_is)
    (case kbI => k_is)
    (case ale => k_is)
    (case rle => k_is)
    (case lle => k_is)
    (case cle => k_is)
    (case kle => k_is)
    (case abE => k_is)
    (case ibE => k_is)
    (case lbE => k_is)
    (case cbE => k_is)
    (case kbE => k_is)
    (case ace => k_is)
    (case ice => k_is)
    (case lce => k_is)
    (case cce => k_is)
    (case kce => k_is)
    (case abb => k_is)
    (case ibb => k_is)
    (case lbb => k_is)
    (case cbb => k_is)
    (case kbb => k_is)
    (case abf => k_is)
    (case ibf => k_is)
    (case lbf => k_is)
    (case cbf => k_is)
    (case kbf => k_is)
    (case abr => k_is)
    (case ibr => k_is)
    (case lbr => k_is)
    (case cbr => k_is)
    (case kbr => k_is)
    (case aX => k_is)
    (case lX => k_is)
    (case cX => k_is)
    (case kX => k_is)
    (case aH => k_is)
    (case lH => k_is)
    (case cH => k_is)
    (case kH => k_is)
    (case aD => k_is)
    (case lD => k_is)
    (case cD => k_is)
    (case kD => k_is)
    (case aP => k_is)
    (case lP => k_is)
    (case cP => k_is)
    (case kP => k_is)
    (case aK => k_is)
    (case lK => k_is)
    (case cK => k_is)
    (case kK => k_is)
    (case aN => k_is)
    (case lN => k_is)
    (case cN => k_is)
    (case kN => k_is)
    (case aRD => k_is)
    (case lRD => k_is)
    (case cRD => k_is)
    (case kRD => k_is)
    (case aLC => k_is)
    (case lLC => k_is)
    (case cLC => k_is)
    (case kLC => k_is)
    (case aLE => k_is)
    (case lLE => k_is)
    (case cLE => k_is)
    (case kLE => k_is)
    (case aBA => k_is)
    (case lBA => k_is)
    (case cBA => k_is)
    (case kBA => k_is)
    (case aS => k_is)
    (case lS => k_is)
    (case cS => k_is)
    (case kS => k_is)
    (case aSB => k_is)
    (case lSB => k_is)
    (case cSB => k_is)
    (case kSB => k_is)
    (case aTE => k_is)
    (case lTE => k_is)
    (case cTE => k_is)
    (case kTE => k_is)
    (case aEN => k_is)
    (case lEN => k_is)
    (case cEN => k_is)
    (case kEN => k_is)
    (case aMA => k_is)
    (case lMA => k_is)
    (case cMA => k_is)
    (case kMA => k_is)
    (case aLT => k_is)
    (case lLT => k_is)
    (case cLT => k_is)
    (case kLT => k_is)
    (case aRF => k_is)
    (case lRF => k_is)
    (case cRF => k_is)
    (case kRF => k_is)
    (case aNT => k_is)
    (case lNT => k_is)
    (case cNT => k_is)
    (case kNT => k_is)
    (case aV => k_is)
    (case lV => k_is)
    (case cV => k_is)
    (case kV => k_is)

