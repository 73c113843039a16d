import PyProof.Rows.All
import Wide.All
import OpenK.AllK
import Wide.FinOn
import HandS.ForMost
import HandS.ForExc
import HandS.Wide
import HandS.IsInst
import HandS.ExcInit
import HandS.ExcField
import HandS.Conv
import HandS.TupLe
import HandS.TryOnly
import HandS.ExcIs
import HandS.Codes
import KE.GoesMore
import HandS.Zip
import HandS.Deep
import HandS.TupSets
import HandS.NoneIn
import KE.KExcIs
import KE.KSortTupG
import HandS.DictTup
import HandS.Sort
import HandS.Small
import HandS.Defaults
import HandS.ClsMeth
import PyProof.MinMaxWalk
import PyProof.WalkInts
import PyProof.SeqI3
import HandS.DictComp
import HandS.Dict
import HandS.TupAny
import HandS.ExcOwn
import HandS.RevRange
import PySem.Challenge.RW_joinedguests_k14_whole_books_put_togethe
set_option Elab.async false
set_option linter.all false
set_option maxRecDepth 100000
set_option maxHeartbeats 2000000
namespace J
open PySem PySem.Spec PyProof.Rows L2
def top (i : Nat) : Stmt := PySem.Challenge.pw_joinedguests_k14_whole_books_put_togethe.main.body.getD i (.Pass ⟨0, 0, 0, 0⟩)
/-! ### a def that may be called -/
structure Cal (P : Program) (w : World) (K : PySem.W.Frag) (mg : Str → Option Value) (base : Heap) (CX : CXT) (k : Nat) (x : Str) (f : Addr) (fd : FuncData) (ps : List Str) (sp : Sp) : Prop where
  F : FnOk P w K mg base CX k f fd ps sp
  m : mg x = some (.ref f)
  kp : PySem.W.keepIn K (.ref f) = true
  b : Binds K fd ps []
section
variable {X : Cx} {CX : CXT} {k j : Nat} {x : Str} {f : Addr} {fd : FuncData} {ps : List Str} {sp : Sp} {E : XK} {p pos : Pos} {e : Expr} {es : List Expr} {t : TA}
theorem pcal (c : Cal X.prog X.w X.K X.mg X.base CX k x f fd ps sp) (hr : Room j X.A) (hx : Passes CX X E) (ha : PA X (e :: es) t) (hk : k ≤ j := by decide) (hg : Gl X x := by rfl)
    (hdb : (x == ("__debug__" : Str)) = false := by decide) (he : starEach (e :: es) X.env = (false, eval e X.env) :: starEach es X.env := by rfl) (hpl : (backTo pos (starEach es X.env)).any (·.1) = false := by rfl) :
    PE X (.Call (.Name x p) (e :: es) [] pos) (tCall sp [] E t) := pe_call c.F (hr.mono hk) hg c.m c.kp c.b .nil hx ha hdb he hpl
end
/-! ### loops over enumerate -/
theorem for_enum {K : PySem.W.Frag} {a : Addr} {xs : List V} {g : TG} {tb : TS} {D : Ends} {σ : L2.St} {H : Hp} (Pv : Nat → L2.St → Hp → Prop) (h0 : Pv 0 σ H) (hl : ∀ i σ H, i ≤ xs.length → Pv i σ H → SqL K H a xs)
    (hs : ∀ i x σ H T, xs[i]? = some x → Pv i σ H → H T = none → g (.ref T) σ (upd H T (.tup [.int (i : Nat), x])) fun σ2 H2 => tb { D with nx := Pv (i + 1), ct := Pv (i + 1), bk := D.nx } σ2 H2) (hd : ∀ σ H, Pv xs.length σ H → D.nx σ H) :
    ∃ W : Nat → Nat → L2.St → Hp → Prop, (∃ m, W 0 m σ H) ∧ ∀ i m σ H, W i m σ H →
      ((Ite K a).stop i H ∧ D.nx σ H) ∨ ((Ite K a).go i H ∧ ∃ N : L2.St → Hp → Prop, (∀ σ' H', N σ' H' → ∃ m', m' < m ∧ W (i + 1) m' σ' H') ∧ ∀ x H', (Ite K a).yld i H x H' → g x σ H' fun σ2 H2 => tb { D with nx := N, ct := N, bk := D.nx } σ2 H2) := by
  refine ⟨fun i m s h => m + i = xs.length ∧ Pv i s h, ⟨xs.length, rfl, h0⟩, ?_⟩
  rintro i m σ H ⟨em, p⟩
  have hi : i ≤ xs.length := by omega
  have q := hl i σ H hi p
  rcases Nat.lt_or_ge i xs.length with hlt | hge
  · refine .inr ⟨⟨xs, xs[i], q, by simp [hlt]⟩, Pv (i + 1), fun σ' H' p' => ⟨m - 1, by omega, by omega, p'⟩, ?_⟩
    rintro x H' ⟨T, y, rfl, hT, rfl, hy⟩
    exact hs i y σ H T (hy xs q) p hT
  · have e : i = xs.length := by omega
    subst e
    exact .inl ⟨⟨xs, q, Nat.le_refl _⟩, hd σ H p⟩

/-! ### mix -/
abbrev s_Lmix : Stmt := top 38
theorem sc_Lmix : FnScope ["_law_number", "_law_turn", "_law_once", "_law_twice"] ["_law_number", "_law_turn"] (defScope s_Lmix) := ⟨rfl, rfl, rfl, by decide +kernel, rfl, by decide +kernel, by decide +kernel⟩
def spMix : Sp := fun vs H Q _ => ∃ n t : Int, vs = [.int n, .int t] ∧ ∀ r : Int, 0 ≤ r → Q (.int r) H
section
variable {P : Program} {w : World} {K : PySem.W.Frag} {mg : Str → Option Value} {base : Heap}
theorem ok_Lmix {f : Addr} {fd : FuncData} (F : Fun K "_law_mix" "_law_mix" s_Lmix f fd) (ni : mg "int" = none) : FnOk P w K mg base CX0 1 f fd ["_law_number", "_law_turn"] spMix := by
  refine F.ok sc_Lmix (fun vs H Q E h => ?_) (fun cdv A outer s H vs Q E hr h => ?_)
  · obtain ⟨n, t, rfl, _⟩ := h
    rfl
  · obtain ⟨n, t, rfl, k⟩ := h
    refine ⟨_, (pss_cons 
  (ps_set (i := 2) sc_Lmix.nd rfl (Or.inl rfl) (pe_op op_mod (pe_callTy call_int1 (by rfl) ni (by decide +kernel) (pa_cons (pe_op op_add (pe_op op_add (pe_op op_mul (pv 0) pe_int) (pe_op op_mul (pv 1) pe_int)) pe_int) pa_nil)) pe_int)) (pss_cons 
  (ps_set (i := 3) sc_Lmix.nd rfl (Or.inl rfl) (pe_op op_mod (pe_callTy call_int1 (by rfl) ni (by decide +kernel) (pa_cons (pe_op op_add (pe_op op_add (pe_op op_mul (pv 2) (pv 2)) (pe_op op_mul (pe_op op_fdiv (pv 2) pe_int) pe_int)) (pe_op op_mul (pv 1) pe_int)) pa_nil)) pe_int)) (pss_one 
  (ps_ret (pe_op op_fdiv (pe_op op_mod (pe_callTy call_int1 (by rfl) ni (by decide +kernel) (pa_cons (pe_op op_add (pe_op op_fdiv (pe_op op_mul (pv 3) (pv 3)) pe_int) (pv 2)) pa_nil)) pe_int) pe_int))))), ?_⟩
    refine ⟨_, rfl, _, _, rfl, rfl, .inr (by decide), _, rfl, _, _, rfl, rfl, .inr (by decide), _, _, rfl, rfl, _, _, rfl, rfl, .inl ⟨_, rfl, ?_⟩⟩
    refine ⟨_, _, rfl, rfl, (by show (0 : Int) < 2147483647; decide), ?_⟩
    have b1 := Int.emod_nonneg (n * 48271 + t * 16807 + 11) (b := 2147483647) (by decide)
    have b2 := Int.emod_lt_of_pos (n * 48271 + t * 16807 + 11) (b := 2147483647) (by decide)
    generalize (n * 48271 + t * 16807 + 11) % 2147483647 = o at b1 b2 ⊢
    refine ⟨_, rfl, _, rfl, _, _, rfl, rfl, .inl ⟨by omega, by omega⟩, ?_⟩
    refine ⟨_, rfl, _, _, rfl, rfl, ⟨by decide, by decide⟩, _, _, rfl, rfl, .inr (by decide), _, _, rfl, rfl, _, rfl, _, _, rfl, rfl, .inr (by decide), _, _, rfl, rfl, .inl ⟨_, rfl, ?_⟩⟩
    refine ⟨_, _, rfl, rfl, (by show (0 : Int) < 2147483399; decide), ?_⟩
    have b3 := Int.emod_nonneg (o * o + o / 127 * 40692 + t * 69621) (b := 2147483399) (by decide)
    have b4 := Int.emod_lt_of_pos (o * o + o / 127 * 40692 + t * 69621) (b := 2147483399) (by decide)
    generalize (o * o + o / 127 * 40692 + t * 69621) % 2147483399 = u at b3 b4 ⊢
    refine ⟨_, rfl, _, rfl, _, _, rfl, rfl, .inl ⟨by omega, by omega⟩, _, _, rfl, rfl, ⟨by decide, by decide⟩, _, rfl, _, _, rfl, rfl, .inl ⟨_, rfl, ?_⟩⟩
    refine ⟨_, _, rfl, rfl, (by show (0 : Int) < 2147483563; decide), _, _, rfl, rfl, ⟨by decide, by decide⟩, k _ ?_⟩
    have b5 := Int.emod_nonneg (u * u / 1009 + o) (b := 2147483563) (by decide)
    omega
end
end J

set_option Elab.async false
set_option linter.all false
set_option maxRecDepth 100000
set_option maxHeartbeats 2000000
namespace J
open PySem PySem.Spec PyProof.Rows L2
/-! ### the hand that is drawn from -/
/-- at h the hand stands: its cells at q -/
def Hand (H : Hp) (h q : Addr) : Prop := ∃ (cs : List Int) (i r t : Int), H h = some (.lst [.ref q, .int i, .int r, .int t]) ∧ H q = some (.lst (cs.map V.int)) ∧ q ≠ h ∧ 0 ≤ i ∧ 0 ≤ r ∧ 0 ≤ t ∧ t < 2147483629 ∧ (∀ c ∈ cs, 0 ≤ c) ∧ cs.length ≤ 63
/-- all that was tracked stands as it stood, but for what is at h -/
def But (h : Addr) (H H' : Hp) : Prop := ∀ b o, b ≠ h → H b = some o → H' b = some o
theorem But.refl (h : Addr) (H : Hp) : But h H H := fun _ _ _ e => e
theorem But.trans {h : Addr} {H H1 H2 : Hp} (a : But h H H1) (b : But h H1 H2) : But h H H2 := fun c o n e => b c o n (a c o n e)
theorem But.put {h : Addr} {H : Hp} {o : HO} : But h H (upd H h o) := fun c u n e => by rw [upd_ne n]; exact e
theorem But.new {h a : Addr} {H : Hp} {o : HO} (n : H a = none) : But h H (upd H a o) := fun c u _ e => by rw [upd_ne (ne_of_none e n)]; exact e
theorem But.same {h : Addr} {H H1 : Hp} (s : Same H H1) : But h H H1 := fun c o _ e => s c o e
theorem Hand.keep {H H' : Hp} {h q : Addr} (x : Hand H h q) (s : Same H H') : Hand H' h q := by
  obtain ⟨cs, i, r, t, e1, e2, z⟩ := x
  exact ⟨cs, i, r, t, s _ _ e1, s _ _ e2, z⟩
theorem Hand.put {H : Hp} {h q a : Addr} {o : HO} (x : Hand H h q) (n1 : h ≠ a) (n2 : q ≠ a) : Hand (upd H a o) h q := by
  obtain ⟨cs, i, r, t, e1, e2, z⟩ := x
  exact ⟨cs, i, r, t, by rw [upd_ne n1]; exact e1, by rw [upd_ne n2]; exact e2, z⟩
theorem Hand.new {H : Hp} {h q a : Addr} {o : HO} (x : Hand H h q) (n : H a = none) : Hand (upd H a o) h q :=
  x.keep fun c u e => by rw [upd_ne (ne_of_none e n)]; exact e
theorem yesT {A B : Hp → Prop} {σ : L2.St} {H : Hp} (h : A H) : tYes σ H (fun b H3 => if b = true then A H3 else B H3) := by
  show if true = true then A H else B H
  rw [if_pos rfl]
  exact h
abbrev s_Lhand : Stmt := top 39
theorem sc_Lhand : FnScope ["_law_script", "_law_total", "_law_k", "_law_cell"] ["_law_script"] (defScope s_Lhand) := ⟨rfl, rfl, rfl, by decide +kernel, rfl, by decide +kernel, by decide +kernel⟩
def spHand (K : PySem.W.Frag) : Sp := fun vs H Q _ => ∃ (a : Addr) (ns : List Int), vs = [.ref a] ∧ SqL K H a (ns.map V.int) ∧ ns.length ≤ 63 ∧ ∀ (H' : Hp) (h q : Addr), Same H H' → H h = none → H q = none → Hand H' h q → Q (.ref h) H'
section
variable {P : Program} {w : World} {K : PySem.W.Frag} {mg : Str → Option Value} {base : Heap}
theorem ok_Lhand {f : Addr} {fd : FuncData} (F : Fun K "_law_hand" "_law_hand" s_Lhand f fd) (ni : mg "int" = none) (na : mg "abs" = none) (ne : mg "enumerate" = none) : FnOk P w K mg base CX0 1 f fd ["_law_script"] (spHand K) := by
  refine F.ok sc_Lhand (fun vs H Q E h => ?_) (fun cdv A outer s H vs Q E hr h => ?_)
  · obtain ⟨a, ns, rfl, _⟩ := h
    rfl
  · obtain ⟨a, ns, rfl, hS, hn, k⟩ := h
    refine ⟨_, (pss_cons 
  (ps_set (i := 1) sc_Lhand.nd rfl (Or.inl rfl) pe_int) (pss_cons 
  (ps_for PassesOwn.never rfl (pi_enum (by rfl) ne (pa_cons (pv 0) pa_nil)) (pg_tup (by rfl) (pgs_cons (pg_name (i := 2) sc_Lhand.nd rfl (Or.inl rfl)) (pgs_cons (pg_name (i := 3) sc_Lhand.nd rfl (Or.inl rfl)) pgs_nil))) (pss_one 
    (ps_set (i := 1) sc_Lhand.nd rfl (Or.inl rfl) (pe_op op_mod (pe_callTy call_int1 (by rfl) ni (by decide +kernel) (pa_cons (pe_op op_add (pe_op op_mul (pv 1) pe_int) (pe_op op_mul (pe_callTy call_int1 (by rfl) ni (by decide +kernel) (pa_cons (pv 3) pa_nil)) (pe_op op_add (pv 2) pe_int))) pa_nil)) pe_int)))) (pss_one 
  (ps_ret (pe_lst (pa_cons (pe_lc (own := [("_law_cell", 3)]) (g := gName 3) (by rfl) sc_Lhand.nd (pi_list (pv 0)) (blkOk_by (own := [("_law_cell", 3)]) (N := ["_law_script", "_law_total", "_law_k", "_law_cell"]) (sc := defScope s_Lhand) (by decide +kernel)) (fun _ _ _ _ _ => pg_name (i := 3) sc_Lhand.nd rfl (Or.inl rfl)) (fun _ _ _ _ _ => pts_nil) (fun _ _ _ _ _ => (pe_callB call_abs (by rfl) na (by decide +kernel) (pa_cons (pe_callTy call_int1 (by rfl) ni (by decide +kernel) (pa_cons (pv 3) pa_nil)) pa_nil)))) (pa_cons pe_int (pa_cons pe_int (pa_cons (pv 1) pa_nil))))))))), ?_⟩
    refine ⟨_, rfl, a, _, rfl, hS, for_enum (K := K) (a := a) (xs := ns.map V.int) (fun i σ H' => ∃ (t : Int) (v2 v3 : Option V), σ = [some (.ref a), some (.int t), v2, v3] ∧ Same H H' ∧ 0 ≤ t ∧ t < 2147483629)
      ⟨0, none, none, rfl, Same.refl H, by decide, by decide⟩ (fun i σ H' _ ⟨_, _, _, _, S, _⟩ => S.seq hS) ?_ ?_⟩
    · rintro i x σ H' T hx ⟨t, v2, v3, rfl, S, t0, t1⟩ hT
      obtain ⟨c, rfl⟩ : ∃ c, x = V.int c := by
        rw [List.getElem?_map] at hx
        cases e : ns[i]? with
        | none => rw [e] at hx; cases hx
        | some c => rw [e] at hx; exact ⟨c, (Option.some.inj hx).symm⟩
      have hi : i < 63 := by
        have q := (List.getElem?_eq_some_iff.mp hx).1
        rw [List.length_map] at q
        omega
      refine ⟨T, _, rfl, SqT.of upd_same, rfl, _, _, rfl, _, _, rfl, rfl, ?_⟩
      refine ⟨_, rfl, _, _, rfl, rfl, .inr (by decide), _, rfl, .inl ⟨_, rfl, _, rfl, _, _, rfl, rfl, _, _, rfl, rfl, .inr ⟨by omega, by omega⟩, _, _, rfl, rfl, .inl ⟨_, rfl, _, _, rfl, rfl, (by show (0 : Int) < 2147483629; decide), ?_⟩⟩⟩
      refine ⟨_, _, _, rfl, fun b o e => ?_, Int.emod_nonneg _ (by decide), Int.emod_lt_of_pos _ (by decide)⟩
      rw [upd_ne (ne_of_none (S _ _ e) hT)]
      exact S _ _ e
    · rintro σ H' ⟨t, v2, v3, rfl, S, t0, t1⟩
      refine ⟨_, rfl, a, rfl, ⟨_, S.seq hS⟩, fun D hD => ?_⟩
      refine lc_list (K := K) (a := a) (xs := ns.map V.int) (fun i H1 => Same H H1 ∧ H D = none ∧ H1 D = some (.lst ((ns.take i).map fun c => V.int (if c < 0 then -c else c)))) ⟨fun b o e => ?_, S.free hD, upd_same⟩ (fun i H1 _ ⟨S1, _⟩ => S1.seq hS) ?_ ?_
      · rw [upd_ne (ne_of_none (S _ _ e) hD)]
        exact S _ _ e
      · rintro i x H1 hx ⟨S1, D0, e1⟩
        obtain ⟨c, hc, rfl⟩ : ∃ c, ns[i]? = some c ∧ x = V.int c := by
          rw [List.getElem?_map] at hx
          cases e : ns[i]? with
          | none => rw [e] at hx; cases hx
          | some c => rw [e] at hx; exact ⟨c, rfl, (Option.some.inj hx).symm⟩
        refine ⟨rfl, yesT ?_⟩
        refine ⟨_, rfl, .inl ⟨_, rfl, _, rfl, _, e1, ?_, fun b o e => ?_, D0, ?_⟩⟩
        · rw [List.length_map, List.length_take]
          exact small1000 (by omega)
        · rw [upd_ne (ne_of_none e D0)]
          exact S1 _ _ e
        · rw [upd_same, List.take_add_one, hc, List.map_append]
          rfl
      · rintro H1 ⟨S1, D0, e1⟩
        rw [List.length_map, List.take_length] at e1
        refine ⟨_, rfl, (by show 4 ≤ sizeLine; decide), fun p hp => k _ p D (fun b o e => ?_) (S1.free hp) D0 ?_⟩
        · rw [upd_ne (ne_of_none (S1 _ _ e) hp)]
          exact S1 _ _ e
        · refine ⟨ns.map fun c => if c < 0 then -c else c, 0, 0, t, upd_same, ?_, ne_of_none e1 hp, by decide, by decide, t0, t1, ?_, by rw [List.length_map]; exact hn⟩
          · rw [upd_ne (ne_of_none e1 hp), e1, List.map_map]
            rfl
          · intro c hc
            obtain ⟨z, _, rfl⟩ := List.mem_map.mp hc
            split <;> omega
end
end J

set_option Elab.async false
set_option linter.all false
set_option maxRecDepth 100000
set_option maxHeartbeats 2000000
namespace J
open PySem PySem.Spec PyProof.Rows L2
theorem ifD {c A B : Prop} [Decidable c] (h1 : c → A) (h2 : ¬ c → B) : if decide c = true then A else B := by
  by_cases h : c
  · rw [if_pos (decide_eq_true h)]
    exact h1 h
  · rw [if_neg (by simp [h])]
    exact h2 h
theorem v_int {a b : Int} (h : a = b) : V.int a = V.int b := by rw [h]
abbrev s_Ldraw : Stmt := top 40
theorem sc_Ldraw : FnScope ["_law_hand_here", "_law_many", "_law_cell", "_law_rest"] ["_law_hand_here", "_law_many"] (defScope s_Ldraw) := ⟨rfl, rfl, rfl, by decide +kernel, rfl, by decide +kernel, by decide +kernel⟩
def spDraw : Sp := fun vs H Q _ => ∃ (h q : Addr) (m : Int), vs = [.ref h, .int m] ∧ 0 < m ∧ m < 2 ^ 62 ∧ Hand H h q ∧ ∀ (v : Int) (H' : Hp), 0 ≤ v → v < m → But h H H' → Hand H' h q → Q (.int v) H'
theorem hand_put {H : Hp} {h q : Addr} {cs : List Int} {i r t : Int} (e2 : H q = some (.lst (cs.map V.int))) (nq : q ≠ h) (i0 : 0 ≤ i) (r0 : 0 ≤ r) (t0 : 0 ≤ t) (t1 : t < 2147483629) (hc : ∀ c ∈ cs, 0 ≤ c) (hl : cs.length ≤ 63) :
    Hand (upd H h (.lst [.ref q, .int i, .int r, .int t])) h q := ⟨cs, i, r, t, upd_same, by rw [upd_ne nq]; exact e2, nq, i0, r0, t0, t1, hc, hl⟩
theorem fmod_in {a m : Int} (h : 0 < m) : 0 ≤ a.fmod m ∧ a.fmod m < m := by
  rw [Int.fmod_eq_emod_of_nonneg a (by omega)]
  exact ⟨Int.emod_nonneg _ (by omega), Int.emod_lt_of_pos _ h⟩
section
variable {P : Program} {w : World} {K : PySem.W.Frag} {mg : Str → Option Value} {base : Heap}
theorem ok_Ldraw {f fM : Addr} {fd fdM : FuncData} (F : Fun K "_law_draw" "_law_draw" s_Ldraw f fd) (ni : mg "int" = none) (nl : mg "len" = none) (GM : Cal P w K mg base CX0 1 "_law_mix" fM fdM ["_law_number", "_law_turn"] spMix) : FnOk P w K mg base CX0 2 f fd ["_law_hand_here", "_law_many"] spDraw := by
  refine F.ok sc_Ldraw (fun vs H Q E h => ?_) (fun cdv A outer s H vs Q E hr h => ?_)
  · obtain ⟨n, q, t, rfl, _⟩ := h
    rfl
  · obtain ⟨h, q, m, rfl, m0, m1, ⟨cs, i, r, t, e1, e2, nq, i0, r0, t0, t1, hc, hl⟩, k⟩ := h
    refine ⟨_, (C8.pss_cut 
  (ps_if (PW.pt (pw_and (pt_cmpR op_eq (pe_ix ix_list (pv 0) pe_int (fun _ _ => rfl)) pe_int (nomark _)) (pw_and1 (pt_cmpR op_lt (pe_ix ix_list (pv 0) pe_int (fun _ _ => rfl)) (pe_callB call_len_seq (by rfl) nl PySem.boot_len (pa_cons (pe_ix ix_list (pv 0) pe_int (fun _ _ => rfl)) pa_nil)) (nomark _))))) (pss_cons 
    (ps_set (i := 2) sc_Ldraw.nd rfl (Or.inl rfl) (pe_ix ix_list (pe_ix ix_list (pv 0) pe_int (fun _ _ => rfl)) (pe_ix ix_list (pv 0) pe_int (fun _ _ => rfl)) (fun _ _ => rfl))) (pss_cons 
    (ps_asg (pe_op op_add (pe_ix ix_list (pv 0) pe_int (fun _ _ => rfl)) pe_int) (pg_sub (pv 0) pe_int set_list)) (pss_cons 
    (ps_if (pt_cmpR op_lt (pv 2) (pe_op op_pow pe_int pe_int) (nomark _)) (pss_one 
      (ps_ret (pe_op op_modN (pe_callTy call_int1 (by rfl) ni (by decide +kernel) (pa_cons (pcal GM hr pass0 (pa_cons (pe_op op_mod (pe_callTy call_int1 (by rfl) ni (by decide +kernel) (pa_cons (pv 2) pa_nil)) pe_int) (pa_cons (pe_ix ix_list (pv 0) pe_int (fun _ _ => rfl)) pa_nil))) pa_nil)) (pv 1)))) pss_nil) (pss_one 
    (ps_asg (pv 2) (pg_sub (pv 0) pe_int set_list)))))) pss_nil) (pss_cons 
  (ps_if (pt_cmpR op_gt (pe_ix ix_list (pv 0) pe_int (fun _ _ => rfl)) pe_int (nomark _)) (pss_cons 
    (ps_set (i := 3) sc_Ldraw.nd rfl (Or.inl rfl) (pe_ix ix_list (pv 0) pe_int (fun _ _ => rfl))) (pss_cons 
    (ps_asg (pe_op op_fdivW (pv 3) (pv 1)) (pg_sub (pv 0) pe_int set_list)) (pss_one 
    (ps_ret (pe_op op_modN (pe_callTy call_int1 (by rfl) ni (by decide +kernel) (pa_cons (pv 3) pa_nil)) (pv 1)))))) pss_nil) (pss_cons 
  (ps_asg (pe_op op_mod (pe_callTy call_int1 (by rfl) ni (by decide +kernel) (pa_cons (pe_op op_add (pe_ix ix_list (pv 0) pe_int (fun _ _ => rfl)) pe_int) pa_nil)) pe_int) (pg_sub (pv 0) pe_int set_list)) (pss_one 
  (ps_ret (pe_op op_modN (pe_callTy call_int1 (by rfl) ni (by decide +kernel) (pa_cons (pcal GM hr pass0 (pa_cons (pe_ix ix_list (pv 0) pe_int (fun _ _ => rfl)) (pa_cons (pe_ix ix_list (pv 0) pe_int (fun _ _ => rfl)) pa_nil))) pa_nil)) (pv 1))))))), ?_⟩
    refine ⟨fun σ' H' => ∃ (v2 : Option V) (i r t : Int), σ' = [some (.ref h), some (.int m), v2, none] ∧ But h H H' ∧ H' h = some (.lst [.ref q, .int i, .int r, .int t]) ∧ 0 ≤ i ∧ 0 ≤ r ∧ 0 ≤ t ∧ t < 2147483629, ?_, ?_⟩
    · -- hand[2] == 0
      refine ⟨_, rfl, _, _, _, _, rfl, rfl, SqL.of e1, rfl, rfl, _, rfl, ?_⟩
      refine ifD (fun c1 => ?_) (fun c1 => iteF ⟨none, i, r, t, rfl, But.refl h H, e1, i0, r0, t0, t1⟩)
      refine ⟨_, rfl, _, _, _, _, rfl, rfl, SqL.of e1, rfl, _, rfl, _, _, _, _, rfl, rfl, SqL.of e1, rfl, _, _, rfl, .inl (SqL.of e2), _, _, rfl, rfl, _, rfl, ?_⟩
      refine ifD (fun c2 => ?_) (fun c2 => ⟨none, i, r, t, rfl, But.refl h H, e1, i0, r0, t0, t1⟩)
      rw [List.length_map] at c2
      have hi : i.toNat < cs.length := by omega
      have hic : ((i.toNat : Nat) : Int) = i := Int.toNat_of_nonneg i0
      have hat : (cs.map V.int)[i.toNat]? = some (V.int cs[i.toNat]) := by
        rw [List.getElem?_map, List.getElem?_eq_getElem hi]
        rfl
      have cp : 0 ≤ cs[i.toNat] := hc _ (List.getElem_mem hi)
      generalize cs[i.toNat] = c at hat cp
      refine ⟨_, rfl, _, _, _, _, rfl, rfl, SqL.of e1, rfl, _, rfl, _, _, _, _, rfl, rfl, SqL.of e1, rfl, _, _, _, _, rfl, rfl, SqL.of e2, at_of hic.symm hat, ?_⟩
      refine ⟨_, rfl, _, _, _, _, rfl, rfl, SqL.of e1, rfl, _, _, rfl, rfl, _, rfl, _, _, _, _, rfl, rfl, e1, rfl, ?_⟩
      have e3 : (upd H h (.lst [.ref q, .int (i + 1), .int r, .int t])) h = some (.lst [.ref q, .int (i + 1), .int r, .int t]) := upd_same
      refine ⟨_, rfl, _, _, rfl, rfl, ⟨by decide, by decide, by decide⟩, _, _, rfl, rfl, _, rfl, ?_⟩
      refine ifD (fun c3 => ?_) (fun c3 => ?_)
      · refine ⟨_, rfl, .inl ⟨_, rfl, _, _, rfl, rfl, (by show (0 : Int) < 2147483647; decide), _, rfl, _, _, _, _, rfl, rfl, SqL.of e3, rfl, _, _, rfl, fun z z0 => .inl ⟨_, rfl, _, rfl, _, _, rfl, rfl, (by show m ≠ 0; omega), ?_⟩⟩⟩
        exact k _ _ (fmod_in m0).1 (fmod_in m0).2 But.put (hand_put e2 nq (by omega) r0 t0 t1 hc hl)
      · refine ⟨_, rfl, _, rfl, _, _, _, _, rfl, rfl, e3, rfl, ?_⟩
        exact ⟨_, i + 1, c, t, rfl, But.put.trans But.put, upd_same, by omega, cp, t0, t1⟩
    · rintro σ' H' ⟨v2, i, r, t, rfl, B1, e1, i0, r0, t0, t1⟩
      have e2' := B1 _ _ nq e2
      refine ⟨_, rfl, _, _, _, _, rfl, rfl, SqL.of e1, rfl, _, _, rfl, rfl, _, rfl, ?_⟩
      refine ifD (fun c1 => ?_) (fun c1 => ?_)
      · refine ⟨_, rfl, _, _, _, _, rfl, rfl, SqL.of e1, rfl, _, rfl, _, rfl, _, _, rfl, rfl, wide_div (b := 62) m0 (by omega) (by decide) (by decide), _, rfl, _, _, _, _, rfl, rfl, e1, rfl, ?_⟩
        refine ⟨_, rfl, .inl ⟨_, rfl, _, rfl, _, _, rfl, rfl, (by show m ≠ 0; omega), ?_⟩⟩
        exact k _ _ (fmod_in m0).1 (fmod_in m0).2 (B1.trans But.put) (hand_put e2' nq i0 (Int.ediv_nonneg r0 (by omega)) t0 t1 hc hl)
      · refine ⟨_, rfl, _, _, _, _, rfl, rfl, SqL.of e1, rfl, _, _, rfl, rfl, .inl ⟨_, rfl, _, _, rfl, rfl, (by show (0 : Int) < 2147483629; decide), _, rfl, _, _, _, _, rfl, rfl, e1, rfl, ?_⟩⟩
        have e3 : (upd H' h (.lst [.ref q, .int i, .int r, .int ((t + 1) % 2147483629)])) h = some (.lst [.ref q, .int i, .int r, .int ((t + 1) % 2147483629)]) := upd_same
        refine ⟨_, rfl, _, _, _, _, rfl, rfl, SqL.of e3, rfl, _, rfl, _, _, _, _, rfl, rfl, SqL.of e3, rfl, _, _, rfl, fun z z0 => .inl ⟨_, rfl, _, rfl, _, _, rfl, rfl, (by show m ≠ 0; omega), ?_⟩⟩
        exact k _ _ (fmod_in m0).1 (fmod_in m0).2 (B1.trans But.put) (hand_put e2' nq i0 r0 (Int.emod_nonneg _ (by decide)) (Int.emod_lt_of_pos _ (by decide)) hc hl)
end
end J

set_option Elab.async false
set_option linter.all false
set_option maxRecDepth 100000
set_option maxHeartbeats 2000000
namespace J
open PySem PySem.Spec PyProof.Rows L2
/-! ### things of many kinds -/
/-- the shape of a thing -/
inductive Sh where
  | sc (v : V) | dk | lst (xs : List V) | tup (xs : List V)
def isSc : V → Bool
  | .non => true | .bl _ => true | .int _ => true | .str _ => true | _ => false
def Is (H : Hp) (x : V) : Sh → Prop
  | .sc v => x = v ∧ isSc v = true
  | .dk => ∃ a kvs, x = .ref a ∧ H a = some (.dK kvs)
  | .lst xs => ∃ a, x = .ref a ∧ H a = some (.lst xs)
  | .tup xs => ∃ a, x = .ref a ∧ H a = some (.tup xs)
def Sh.int : Sh → Bool
  | .sc (.int _) => true | _ => false
def Sh.bl : Sh → Bool
  | .sc (.bl _) => true | _ => false
def Sh.isL : Sh → Bool
  | .lst _ => true | _ => false
def Sh.isT : Sh → Bool
  | .tup _ => true | _ => false
theorem Is.keep {H H' : Hp} {x : V} {s : Sh} (h : Is H x s) (S : Same H H') : Is H' x s := by
  cases s with
  | sc v => exact h
  | dk => obtain ⟨a, kvs, e, q⟩ := h; exact ⟨a, kvs, e, S _ _ q⟩
  | lst xs => obtain ⟨a, e, q⟩ := h; exact ⟨a, e, S _ _ q⟩
  | tup xs => obtain ⟨a, e, q⟩ := h; exact ⟨a, e, S _ _ q⟩
theorem kt_NoneType_int : kitB "NoneType" "int" = some false := by decide +kernel
theorem kt_NoneType_bool : kitB "NoneType" "bool" = some false := by decide +kernel
theorem kt_NoneType_list : kitB "NoneType" "list" = some false := by decide +kernel
theorem kt_NoneType_tuple : kitB "NoneType" "tuple" = some false := by decide +kernel
theorem kt_bool_int : kitB "bool" "int" = some true := by decide +kernel
theorem kt_bool_bool : kitB "bool" "bool" = some true := by decide +kernel
theorem kt_bool_list : kitB "bool" "list" = some false := by decide +kernel
theorem kt_bool_tuple : kitB "bool" "tuple" = some false := by decide +kernel
theorem kt_int_int : kitB "int" "int" = some true := by decide +kernel
theorem kt_int_bool : kitB "int" "bool" = some false := by decide +kernel
theorem kt_int_list : kitB "int" "list" = some false := by decide +kernel
theorem kt_int_tuple : kitB "int" "tuple" = some false := by decide +kernel
theorem kt_str_int : kitB "str" "int" = some false := by decide +kernel
theorem kt_str_bool : kitB "str" "bool" = some false := by decide +kernel
theorem kt_str_list : kitB "str" "list" = some false := by decide +kernel
theorem kt_str_tuple : kitB "str" "tuple" = some false := by decide +kernel
theorem kt_dict_int : kitB "dict" "int" = some false := by decide +kernel
theorem kt_dict_bool : kitB "dict" "bool" = some false := by decide +kernel
theorem kt_dict_list : kitB "dict" "list" = some false := by decide +kernel
theorem kt_dict_tuple : kitB "dict" "tuple" = some false := by decide +kernel
theorem kt_list_int : kitB "list" "int" = some false := by decide +kernel
theorem kt_list_bool : kitB "list" "bool" = some false := by decide +kernel
theorem kt_list_list : kitB "list" "list" = some true := by decide +kernel
theorem kt_list_tuple : kitB "list" "tuple" = some false := by decide +kernel
theorem kt_tuple_int : kitB "tuple" "int" = some false := by decide +kernel
theorem kt_tuple_bool : kitB "tuple" "bool" = some false := by decide +kernel
theorem kt_tuple_list : kitB "tuple" "list" = some false := by decide +kernel
theorem kt_tuple_tuple : kitB "tuple" "tuple" = some true := by decide +kernel
theorem Is.ty {K : PySem.W.Frag} {H : Hp} {x : V} {s : Sh} (h : Is H x s) : ∃ t : String, TyX K H x (.type t) ∧ kitB t "int" = some (s.int || s.bl) ∧ kitB t "bool" = some s.bl ∧ kitB t "list" = some s.isL ∧ kitB t "tuple" = some s.isT := by
  cases s with
  | sc v =>
    obtain ⟨rfl, e⟩ := h
    cases x with
    | non => exact ⟨_, .base .non, kt_NoneType_int, kt_NoneType_bool, kt_NoneType_list, kt_NoneType_tuple⟩
    | bl b => exact ⟨_, .base (.bl b), kt_bool_int, kt_bool_bool, kt_bool_list, kt_bool_tuple⟩
    | int b => exact ⟨_, .base (.int b), kt_int_int, kt_int_bool, kt_int_list, kt_int_tuple⟩
    | str b => exact ⟨_, .base (.str b), kt_str_int, kt_str_bool, kt_str_list, kt_str_tuple⟩
    | byt b => cases e
    | flt b => cases e
    | ref b => cases e
    | ty b => cases e
  | dk => obtain ⟨a, kvs, rfl, q⟩ := h; exact ⟨_, .base (.dK q), kt_dict_int, kt_dict_bool, kt_dict_list, kt_dict_tuple⟩
  | lst xs => obtain ⟨a, rfl, q⟩ := h; exact ⟨_, .base (.lst q), kt_list_int, kt_list_bool, kt_list_list, kt_list_tuple⟩
  | tup xs => obtain ⟨a, rfl, q⟩ := h; exact ⟨_, .base (.tup q), kt_tuple_int, kt_tuple_bool, kt_tuple_list, kt_tuple_tuple⟩
/-- isinstance(x, (list, tuple)) -/
theorem kit_seq {K : PySem.W.Frag} {t : String} {a b : Bool} (h1 : kitB t "list" = some a) (h2 : kitB t "tuple" = some b) : PySem.W.kitAny K (.type t) [.type "list", .type "tuple"] = some (a || b) :=
  kitAny_cons (kit_ty h1) (fun e => by subst e; exact kitAny_cons (kit_ty h2) (fun e => by subst e; exact kitAny_nil) (fun e => by subst e; rfl)) (fun e => by subst e; rfl)
def wholeB (x : V) (lo hi : Int) : Bool := match x with
  | .int i => decide (lo ≤ i) && decide (i ≤ hi)
  | _ => false

abbrev s_is_whole : Stmt := top 12
theorem sc_is_whole : FnScope ["thing", "low", "high"] ["thing", "low", "high"] (defScope s_is_whole) := ⟨rfl, rfl, rfl, by decide +kernel, rfl, by decide +kernel, by decide +kernel⟩
def spWhole : Sp := fun vs H Q _ => ∃ (x : V) (s : Sh) (lo hi : Int), vs = [x, .int lo, .int hi] ∧ Is H x s ∧ Q (.bl (wholeB x lo hi)) H
theorem if_tr {A B : Prop} {c : Bool} (e : c = true) (h : A) : if c = true then A else B := by rw [if_pos e]; exact h
theorem if_fa {A B : Prop} {c : Bool} (e : c = false) (h : B) : if c = true then A else B := by rw [if_neg (by simp [e])]; exact h
section
variable {P : Program} {w : World} {K : PySem.W.Frag} {mg : Str → Option Value} {base : Heap}
theorem ok_is_whole {f : Addr} {fd : FuncData} (F : Fun K "is_whole" "is_whole" s_is_whole f fd) (ns : mg "isinstance" = none) (ni : mg "int" = none) (nb : mg "bool" = none) : FnOk P w K mg base CX0 1 f fd ["thing", "low", "high"] spWhole := by
  refine F.ok sc_is_whole (fun vs H Q E h => ?_) (fun cdv A outer s H vs Q E hr h => ?_)
  · obtain ⟨x, s, lo, hi, rfl, _⟩ := h
    rfl
  · obtain ⟨x, sh, lo, hi, rfl, hx, k⟩ := h
    refine ⟨_, (pss_one 
  (ps_ret (pe_and (pe_callB call_isi (by rfl) ns (by decide +kernel) (pa_cons (pv 0) (pa_cons (pe_bltn (by rfl) ni (by decide +kernel) (v := .ty "int") rfl) pa_nil))) (pe_and (pe_not (pe_callB call_isi (by rfl) ns (by decide +kernel) (pa_cons (pv 0) (pa_cons (pe_bltn (by rfl) nb (by decide +kernel) (v := .ty "bool") rfl) pa_nil)))) (pe_one (pe_chain op_le op_le (pv 1) (pv 0) (pv 2))))))), ?_⟩
    obtain ⟨t, ht, k1, k2, _⟩ := hx.ty (K := K)
    refine ⟨_, rfl, _, _, _, _, _, rfl, .ty "int", ht, kit_ty k1, _, rfl, ?_⟩
    cases e1 : sh.int with
    | true =>
      obtain ⟨i, rfl⟩ : ∃ i, sh = .sc (.int i) := by
        cases sh with
        | sc v => cases v <;> first | exact ⟨_, rfl⟩ | cases e1
        | _ => cases e1
      obtain ⟨rfl, _⟩ := hx
      refine if_tr rfl ?_
      refine ⟨_, rfl, _, _, _, _, _, rfl, .ty "bool", ht, kit_ty k2, _, rfl, _, rfl, ?_⟩
      refine if_tr rfl ?_
      refine ⟨_, rfl, _, rfl, _, _, rfl, rfl, _, rfl, ?_⟩
      by_cases c : lo ≤ i
      · refine if_tr (decide_eq_true c) ⟨_, rfl, _, _, rfl, rfl, ?_⟩
        have e : wholeB (.int i) lo hi = decide (i ≤ hi) := by
          show (decide (lo ≤ i) && decide (i ≤ hi)) = _
          rw [decide_eq_true c, Bool.true_and]
        rw [e] at k
        exact k
      · refine if_fa (decide_eq_false c) ?_
        have e : wholeB (.int i) lo hi = false := by
          show (decide (lo ≤ i) && decide (i ≤ hi)) = _
          rw [decide_eq_false c, Bool.false_and]
        rw [e] at k
        exact k
    | false =>
      have e : wholeB x lo hi = false := by
        cases sh with
        | sc v =>
          obtain ⟨rfl, _⟩ := hx
          cases x <;> first | rfl | cases e1
        | dk => obtain ⟨a, _, rfl, _⟩ := hx; rfl
        | lst => obtain ⟨a, rfl, _⟩ := hx; rfl
        | tup => obtain ⟨a, rfl, _⟩ := hx; rfl
      rw [e] at k
      cases e2 : sh.bl with
      | true =>
        refine if_tr rfl ?_
        refine ⟨_, rfl, _, _, _, _, _, rfl, .ty "bool", ht, kit_ty (e2 ▸ k2), _, rfl, _, rfl, ?_⟩
        exact if_fa rfl k
      | false => exact if_fa rfl k
abbrev s_is_sequence : Stmt := top 14
theorem sc_is_sequence : FnScope ["thing"] ["thing"] (defScope s_is_sequence) := ⟨rfl, rfl, rfl, by decide +kernel, rfl, by decide +kernel, by decide +kernel⟩
def spSeq : Sp := fun vs H Q _ => ∃ (x : V) (s : Sh), vs = [x] ∧ Is H x s ∧ ∀ H', Same H H' → Q (.bl (s.isL || s.isT)) H'
theorem new_same {H : Hp} {p : Addr} {o : HO} (n : H p = none) : Same H (upd H p o) := fun b u e => by
  rw [upd_ne (ne_of_none e n)]
  exact e
/-- the test isinstance(x, (list, tuple)) -/
theorem isi_seq {K : PySem.W.Frag} {H : Hp} {x : V} {s : Sh} {Q : VK} (hx : Is H x s) (k : ∀ H', Same H H' → Q (.bl (s.isL || s.isT)) H') : 2 ≤ sizeLine ∧ ∀ p, H p = none → rIsiT K [x, .ref p] (upd H p (.tup [.ty "list", .ty "tuple"])) Q := by
  refine ⟨by decide, fun p hp => ?_⟩
  have S : Same H (upd H p (.tup [.ty "list", .ty "tuple"])) := new_same hp
  obtain ⟨t, ht, _, _, k1, k2⟩ := (hx.keep S).ty (K := K)
  exact ⟨_, _, _, _, _, _, rfl, upd_same, .cons (.ty "list") (.cons (.ty "tuple") .nil), ht, kit_seq k1 k2, k _ S⟩
theorem ok_is_sequence {f : Addr} {fd : FuncData} (F : Fun K "is_sequence" "is_sequence" s_is_sequence f fd) (ns : mg "isinstance" = none) (nl : mg "list" = none) (nt : mg "tuple" = none) : FnOk P w K mg base CX0 1 f fd ["thing"] spSeq := by
  refine F.ok sc_is_sequence (fun vs H Q E h => ?_) (fun cdv A outer s H vs Q E hr h => ?_)
  · obtain ⟨x, s, rfl, _⟩ := h
    rfl
  · obtain ⟨x, sh, rfl, hx, k⟩ := h
    refine ⟨_, (pss_one 
  (ps_ret (pe_callB call_isiT (by rfl) ns (by decide +kernel) (pa_cons (pv 0) (pa_cons (pe_tup (pa_cons (pe_bltn (by rfl) nl (by decide +kernel) (v := .ty "list") rfl) (pa_cons (pe_bltn (by rfl) nt (by decide +kernel) (v := .ty "tuple") rfl) pa_nil))) pa_nil))))), ?_⟩
    exact ⟨_, rfl, isi_seq hx k⟩
end
end J

set_option Elab.async false
set_option linter.all false
set_option maxRecDepth 100000
set_option maxHeartbeats 2000000
namespace J
open PySem PySem.Spec PyProof.Rows L2
/-! ### own errors with one field -/
def spXI (C : Addr) (f : Str) : Sp := fun vs H Q _ => ∃ (a : Addr) (v : V), vs = [.ref a, v] ∧ H a = some (exo a C none) ∧ ∀ dx, H dx = none → dx ≠ a → Q .non (upd (upd H dx (exd dx [(f, v)])) a (exo a C (some dx)))
structure Ex (P : Program) (w : World) (K : PySem.W.Frag) (mg : Str → Option Value) (base : Heap) (x fld : Str) (C fI : Addr) (fd : FuncData) (ps : List Str) : Prop where
  o : OexC K C
  i : PySem.W.findIn K (.ref C) "__init__" = some (some (.ref fI))
  t : PySem.W.typeIn K (.ref fI) = some (.type "function")
  F : FnOk P w K mg base CX0 1 fI fd ps (spXI C fld)
  b : Binds K fd ps []
  m : mg x = some (.ref C)
  xf : XfC K C
  no : PySem.W.findIn K (.ref C) fld = some none
  te : PySem.W.exmOne K (.ref C) (.ref C) = some true
/-- how an error is told: new, with its field -/
def Tells (H : Hp) (C : Addr) (f : Str) (v : V) (E : XK) : Prop := ∀ d H', H d = none → Same H H' → H' d = some (.xd [(f, v)]) → E (.ref C) (some d) H'
theorem mkO_of {C : Addr} {f : Str} {v : V} {H : Hp} {Q : XK} (h : Tells H C f v Q) : [v].length ≤ 1000 ∧ ∀ a, H a = none → spXI C f (.ref a :: ([v] ++ [])) (upd H a (exo a C none))
    (fun u H2 => u = .non ∧ ∃ (d : Addr) (fs : List (Str × V)), H2 a = some (exo a C (some d)) ∧ H2 d = some (exd d fs) ∧ H d = none ∧ Q (.ref C) (some d) (upd (del H2 a) d (.xd fs))) (fun _ _ _ => False) := by
  refine ⟨(by show 1 ≤ 1000; decide), fun a ha => ⟨a, v, rfl, upd_same, fun dx hdx ne => ⟨rfl, dx, [(f, v)], upd_same, ?_, ?_, ?_⟩⟩⟩
  · rw [upd_ne ne, upd_same]
  · rw [upd_ne ne] at hdx
    exact hdx
  · rw [upd_ne ne] at hdx
    refine h _ _ hdx (fun b o e => ?_) upd_same
    rw [upd_ne (ne_of_none e hdx), del_ne (ne_of_none e ha), upd_ne (ne_of_none e ha), upd_ne (ne_of_none e hdx), upd_ne (ne_of_none e ha)]
    exact e
abbrev s_BadTies_init : Stmt := inClass (top 3) 0
abbrev s_NoTie_init : Stmt := inClass (top 4) 0
theorem sc_BadTies_init : FnScope ["self", "what"] ["self", "what"] (defScope s_BadTies_init) := ⟨rfl, rfl, rfl, by decide +kernel, rfl, by decide +kernel, by decide +kernel⟩
theorem sc_NoTie_init : FnScope ["self", "tie"] ["self", "tie"] (defScope s_NoTie_init) := ⟨rfl, rfl, rfl, by decide +kernel, rfl, by decide +kernel, by decide +kernel⟩
section
variable {P : Program} {w : World} {K : PySem.W.Frag} {mg : Str → Option Value} {base : Heap}
theorem ok_BadTies_init {f C : Addr} {fd : FuncData} (F : Fun K "__init__" "BadTies.__init__" s_BadTies_init f fd) (o : OexC K C) (no : PySem.W.findIn K (.ref C) "what" = some none) : FnOk P w K mg base CX0 1 f fd ["self", "what"] (spXI C "what") := by
  refine F.ok sc_BadTies_init (fun vs H Q E h => ?_) (fun cdv A outer s H vs Q E hr h => ?_)
  · obtain ⟨x, s, rfl, _⟩ := h
    rfl
  · obtain ⟨a, v, rfl, ha, k⟩ := h
    refine ⟨_, pss_one (ps_ost (pv 0) (pv 1)), ?_⟩
    exact ⟨_, rfl, _, rfl, a, C, rfl, o, no, .inl ⟨ha, k⟩⟩
theorem ok_NoTie_init {f C : Addr} {fd : FuncData} (F : Fun K "__init__" "NoTie.__init__" s_NoTie_init f fd) (o : OexC K C) (no : PySem.W.findIn K (.ref C) "tie" = some none) : FnOk P w K mg base CX0 1 f fd ["self", "tie"] (spXI C "tie") := by
  refine F.ok sc_NoTie_init (fun vs H Q E h => ?_) (fun cdv A outer s H vs Q E hr h => ?_)
  · obtain ⟨x, s, rfl, _⟩ := h
    rfl
  · obtain ⟨a, v, rfl, ha, k⟩ := h
    refine ⟨_, pss_one (ps_ost (pv 0) (pv 1)), ?_⟩
    exact ⟨_, rfl, _, rfl, a, C, rfl, o, no, .inl ⟨ha, k⟩⟩
end
/-! ### Ties -/
theorem bm_ : ¬ (("backs" : Str) = "many") := by decide +kernel
theorem mb_ : ¬ (("many" : Str) = "backs") := by decide +kernel
def tf (t : Addr) (n : Int) : List (Str × V) := putF "many" (.int n) (putF "backs" (.ref t) [])
theorem tf_backs (t : Addr) (n : Int) : (tf t n).lookup ("backs" : Str) = some (.ref t) := by
  unfold tf
  rw [lookup_putF, if_neg bm_, lookup_putF, if_pos rfl]
theorem tf_many (t : Addr) (n : Int) : (tf t n).lookup ("many" : Str) = some (.int n) := by
  unfold tf
  rw [lookup_putF, if_pos rfl]
theorem tf_no (t : Addr) (n : Int) {m : Str} (h1 : ¬ m = "many") (h2 : ¬ m = "backs") : (tf t n).lookup m = none := by
  unfold tf
  rw [lookup_putF, if_neg h1, lookup_putF, if_neg h2]
  all_goals rfl
def TiesAt (C : Addr) (H : Hp) (x : Addr) (ns : List Int) : Prop := ∃ dx t, H x = some (.ins C dx (tf t (ns.length : Nat))) ∧ H t = some (.tup (ns.map V.int))
theorem TiesAt.keep {C : Addr} {H H' : Hp} {x : Addr} {ns : List Int} (h : TiesAt C H x ns) (S : Same H H') : TiesAt C H' x ns := by
  obtain ⟨dx, t, a, b⟩ := h
  exact ⟨dx, t, S _ _ a, S _ _ b⟩
/-- the class Ties in the written part -/
structure TiC (K : PySem.W.Frag) (C : Addr) : Prop where
  cl : Cls K C
  nB : NoAttr K C "backs"
  nM : NoAttr K C "many"
structure Mt (P : Program) (w : World) (K : PySem.W.Frag) (mg : Str → Option Value) (base : Heap) (CX : CXT) (k : Nat) (C : Addr) (m : Str) (f : Addr) (fd : FuncData) (ps : List Str) (sp : Sp) : Prop where
  M : Meth K C m f
  F : FnOk P w K mg base CX k f fd ps sp
  b : Binds K fd ps []
abbrev s_Ties_has : Stmt := inClass (top 16) 2
abbrev s_Ties_back : Stmt := inClass (top 16) 3
theorem sc_Ties_has : FnScope ["self", "thing"] ["self", "thing"] (defScope s_Ties_has) := ⟨rfl, rfl, rfl, by decide +kernel, rfl, by decide +kernel, by decide +kernel⟩
theorem sc_Ties_back : FnScope ["self", "tie"] ["self", "tie"] (defScope s_Ties_back) := ⟨rfl, rfl, rfl, by decide +kernel, rfl, by decide +kernel, by decide +kernel⟩
def tieB (ns : List Int) (x : V) : Bool := wholeB x 0 ((ns.length : Nat) - 1)
def spHas (C : Addr) : Sp := fun vs H Q _ => ∃ (x : Addr) (ns : List Int) (v : V) (s : Sh), vs = [.ref x, v] ∧ TiesAt C H x ns ∧ Is H v s ∧ Q (.bl (tieB ns v)) H
def spBack (C CN : Addr) : Sp := fun vs H Q E => ∃ (x : Addr) (ns : List Int) (v : V) (s : Sh), vs = [.ref x, v] ∧ TiesAt C H x ns ∧ Is H v s ∧ (∀ (i : Nat) (b : Int), v = .int (i : Nat) → ns[i]? = some b → Q (.int b) H) ∧ (tieB ns v = false → Tells H CN "tie" v E)
def spOneWay (C CN : Addr) : Sp := fun vs H Q E => ∃ (x : Addr) (ns : List Int) (v : V) (s : Sh), vs = [.ref x, v] ∧ TiesAt C H x ns ∧ Is H v s ∧ (∀ (i : Nat) (b : Int), v = .int (i : Nat) → ns[i]? = some b → Q (.bl (!decide (b = (i : Nat)))) H) ∧ (tieB ns v = false → Tells H CN "tie" v E)
theorem tieB_true {ns : List Int} {v : V} (h : tieB ns v = true) : ∃ (i : Nat) (b : Int), v = .int (i : Nat) ∧ ns[i]? = some b := by
  cases v with
  | int i =>
    have h' : (decide (0 ≤ i) && decide (i ≤ (ns.length : Nat) - 1)) = true := h
    obtain ⟨h1, h2⟩ := Bool.and_eq_true_iff.mp h'
    have h1 := of_decide_eq_true h1
    have h2 := of_decide_eq_true h2
    have hl : i.toNat < ns.length := by omega
    exact ⟨i.toNat, ns[i.toNat], by rw [Int.toNat_of_nonneg h1], List.getElem?_eq_getElem hl⟩
  | _ => cases h
section
variable {P : Program} {w : World} {K : PySem.W.Frag} {mg : Str → Option Value} {base : Heap}
theorem ok_Ties_has {f C fW : Addr} {fd fdW : FuncData} (F : Fun K "has" "Ties.has" s_Ties_has f fd) (T : TiC K C) (GW : Cal P w K mg base CX0 1 "is_whole" fW fdW ["thing", "low", "high"] spWhole) : FnOk P w K mg base CX0 2 f fd ["self", "thing"] (spHas C) := by
  refine F.ok sc_Ties_has (fun vs H Q E h => ?_) (fun cdv A outer s H vs Q E hr h => ?_)
  · obtain ⟨x, ns, v, s, rfl, _⟩ := h
    rfl
  · obtain ⟨x, ns, v, s, rfl, ⟨dx, t, hx, ht⟩, hv, k⟩ := h
    refine ⟨_, (pss_one 
  (ps_ret (pcal GW hr pass0 (pa_cons (pv 1) (pa_cons pe_int (pa_cons (pe_op op_sub (pe_fld (pv 0) rfl) pe_int) pa_nil)))))), ?_⟩
    exact ⟨_, rfl, _, rfl, x, C, dx, _, _, rfl, hx, T.cl, T.nM, tf_many _ _, _, _, rfl, rfl, v, s, _, _, rfl, hv, k⟩
theorem ok_Ties_back {f C CN fH fI : Addr} {fd fdH fdI : FuncData} (F : Fun K "back" "Ties.back" s_Ties_back f fd) (T : TiC K C) (GH : Mt P w K mg base CX0 2 C "has" fH fdH ["self", "thing"] (spHas C)) (GN : Ex P w K mg base "NoTie" "tie" CN fI fdI ["self", "tie"]) :
    FnOk P w K mg base (L2.CX P w) 3 f fd ["self", "tie"] (spBack C CN) := by
  refine F.okX sc_Ties_back (fun vs H Q E h => ?_) (fun cdv A outer s H vs Q E hr h => ?_)
  · obtain ⟨x, ns, v, s, rfl, _⟩ := h
    rfl
  · obtain ⟨x, ns, v, s, rfl, hT, hv, k1, k2⟩ := h
    obtain ⟨dx, t, hx, ht⟩ := id hT
    refine ⟨_, (pss_cons 
  (ps_if (pt_not (pt_val (pe_meth (pv 0) T.cl GH.M GH.F hr GH.b .nil pass0 (pa_cons (pv 1) pa_nil)))) (pss_one 
    (ps_raise rfl (takes_of rfl rfl rfl rfl) (pmk_oex GN.o GN.i GN.t GN.F hr GN.b .nil pass0 rfl GN.m (pa_cons (pv 1) pa_nil)))) pss_nil) (pss_one 
  (ps_ret (pe_ix ix_tup (pe_fld (pv 0) rfl) (pv 1) (fun _ _ => rfl))))), ?_⟩
    refine ⟨_, rfl, x, dx, _, rfl, hx, tf_no _ _ (by decide +kernel) (by decide +kernel), _, rfl, x, ns, v, s, rfl, hT, hv, _, rfl, ?_⟩
    cases e : tieB ns v with
    | true =>
      obtain ⟨i, b, rfl, hb⟩ := tieB_true e
      refine if_fa rfl ⟨_, rfl, x, C, dx, _, _, rfl, hx, T.cl, T.nB, tf_backs _ _, _, rfl, _, _, _, _, rfl, rfl, SqT.of ht, at_of (v := .int b) rfl ?_, k1 i b rfl hb⟩
      rw [List.getElem?_map, hb]
      rfl
    | false => exact if_tr rfl ⟨_, rfl, mkO_of (k2 e)⟩
end
end J

set_option Elab.async false
set_option linter.all false
set_option maxRecDepth 100000
set_option maxHeartbeats 4000000
namespace J
open PySem PySem.Spec PyProof.Rows L2
/-! ### which word is due -/
def backB (xs : List V) (k : Nat) : Bool := match xs[k]? with
  | some (.int n) => decide (xs[n.toNat]? = some (.int (k : Nat)))
  | _ => false
def dueS (xs : List V) : Option Str :=
  if 2 ≤ xs.length ∧ xs.length ≤ 4 then
    if ∀ x ∈ xs, wholeB x 0 ((xs.length : Nat) - 1) = true then
      if ∀ k, k < xs.length → backB xs k = true then none else some "back"
    else some "tie"
  else some "count"
def due : Sh → Option Str
  | .lst xs => dueS xs
  | .tup xs => dueS xs
  | _ => some "row"
def items : Sh → List V
  | .lst xs => xs
  | .tup xs => xs
  | _ => []
def Known (H : Hp) (xs : List V) : Prop := ∀ x ∈ xs, ∃ s, Is H x s
theorem Known.keep {H H' : Hp} {xs : List V} (h : Known H xs) (S : Same H H') : Known H' xs := fun x hx => by
  obtain ⟨s, q⟩ := h x hx
  exact ⟨s, q.keep S⟩
/-- what stands behind a due of none -/
structure GoodB (ns : List Int) : Prop where
  lo : 2 ≤ ns.length
  hi : ns.length ≤ 4
  rng : ∀ n ∈ ns, 0 ≤ n ∧ n < (ns.length : Nat)
  inv : ∀ (k : Nat) (b : Int), ns[k]? = some b → ns[b.toNat]? = some (k : Int)
theorem whole_int {x : V} {hi : Int} (h : wholeB x 0 hi = true) : ∃ n : Int, x = .int n ∧ 0 ≤ n ∧ n ≤ hi := by
  cases x with
  | int i =>
    have h' : (decide (0 ≤ i) && decide (i ≤ hi)) = true := h
    obtain ⟨h1, h2⟩ := Bool.and_eq_true_iff.mp h'
    exact ⟨i, rfl, of_decide_eq_true h1, of_decide_eq_true h2⟩
  | _ => cases h
theorem whole_of {n hi : Int} (h : 0 ≤ n) (h2 : n ≤ hi) : wholeB (.int n) 0 hi = true := by
  show (decide (0 ≤ n) && decide (n ≤ hi)) = true
  rw [decide_eq_true h, decide_eq_true h2]
  rfl
theorem all_ints {hi : Int} : ∀ {xs : List V}, (∀ x ∈ xs, wholeB x 0 hi = true) → ∃ ns : List Int, xs = ns.map V.int ∧ ∀ n ∈ ns, 0 ≤ n ∧ n ≤ hi
  | [], _ => ⟨[], rfl, fun n h => by cases h⟩
  | x :: xs, h => by
    obtain ⟨n, rfl, h1, h2⟩ := whole_int (h x List.mem_cons_self)
    obtain ⟨ns, rfl, q⟩ := all_ints (xs := xs) fun y hy => h y (List.mem_cons_of_mem _ hy)
    refine ⟨n :: ns, rfl, fun m hm => ?_⟩
    rcases List.mem_cons.mp hm with rfl | hm
    · exact ⟨h1, h2⟩
    · exact q m hm
theorem ints_at {ns : List Int} {k : Nat} {b : Int} (h : ns[k]? = some b) : (ns.map V.int)[k]? = some (V.int b) := by
  rw [List.getElem?_map, h]
  rfl
theorem backB_iff {ns : List Int} {k : Nat} {b : Int} (h : ns[k]? = some b) : backB (ns.map V.int) k = decide (ns[b.toNat]? = some (k : Int)) := by
  unfold backB
  rw [ints_at h]
  show decide ((ns.map V.int)[b.toNat]? = some (V.int (k : Nat))) = _
  rw [List.getElem?_map]
  cases e : ns[b.toNat]? with
  | none => simp
  | some c => simp
theorem good_of {xs : List V} (h : dueS xs = none) : ∃ ns : List Int, xs = ns.map V.int ∧ GoodB ns := by
  unfold dueS at h
  split at h
  · rename_i h1
    split at h
    · rename_i h2
      split at h
      · rename_i h3
        obtain ⟨ns, rfl, q⟩ := all_ints h2
        rw [List.length_map] at h1 h3 q
        refine ⟨ns, rfl, h1.1, h1.2, fun n hn => ⟨(q n hn).1, by have := (q n hn).2; omega⟩, fun k b hb => ?_⟩
        have hk := (List.getElem?_eq_some_iff.mp hb).1
        have z := h3 k hk
        rw [backB_iff hb] at z
        exact of_decide_eq_true z
      · cases h
    · cases h
  · cases h
theorem due_of {ns : List Int} (g : GoodB ns) : dueS (ns.map V.int) = none := by
  unfold dueS
  rw [List.length_map, if_pos ⟨g.lo, g.hi⟩, if_pos, if_pos]
  · intro k hk
    obtain ⟨b, hb⟩ : ∃ b, ns[k]? = some b := ⟨ns[k], List.getElem?_eq_getElem hk⟩
    rw [backB_iff hb]
    exact decide_eq_true (g.inv k b hb)
  · intro x hx
    obtain ⟨n, hn, rfl⟩ := List.mem_map.mp hx
    have := g.rng n hn
    exact whole_of this.1 (by omega)
theorem Tells.mono {H H1 : Hp} {C : Addr} {f : Str} {v : V} {E : XK} (h : Tells H C f v E) (S : Same H H1) : Tells H1 C f v E := fun d H' n S1 e => h d H' (S.free n) (S.trans S1) e
theorem fault_count {xs : List V} (h : ¬ (2 ≤ xs.length ∧ xs.length ≤ 4)) : dueS xs = some ("count" : Str) := by
  unfold dueS
  rw [if_neg h]
theorem fault_tie {xs : List V} {x : V} (h : 2 ≤ xs.length ∧ xs.length ≤ 4) (hx : x ∈ xs) (e : wholeB x 0 ((xs.length : Nat) - 1) = false) : dueS xs = some ("tie" : Str) := by
  unfold dueS
  rw [if_pos h, if_neg]
  intro q
  rw [q x hx] at e
  cases e
theorem fault_back {xs : List V} {k : Nat} (h : 2 ≤ xs.length ∧ xs.length ≤ 4) (ha : ∀ x ∈ xs, wholeB x 0 ((xs.length : Nat) - 1) = true) (hk : k < xs.length) (e : backB xs k = false) : dueS xs = some ("back" : Str) := by
  unfold dueS
  rw [if_pos h, if_pos ha, if_neg]
  intro q
  rw [q k hk] at e
  cases e
theorem fault_none {xs : List V} (h : 2 ≤ xs.length ∧ xs.length ≤ 4) (ha : ∀ x ∈ xs, wholeB x 0 ((xs.length : Nat) - 1) = true) (e : ∀ k, k < xs.length → backB xs k = true) : dueS xs = none := by
  unfold dueS
  rw [if_pos h, if_pos ha, if_pos e]
def faultV : Option Str → V
  | none => .non
  | some w => .str w
abbrev s_ties_fault : Stmt := top 17
theorem sc_ties_fault : FnScope ["backs", "many", "back", "tie"] ["backs"] (defScope s_ties_fault) := ⟨rfl, rfl, rfl, by decide +kernel, rfl, by decide +kernel, by decide +kernel⟩
def spFault : Sp := fun vs H Q _ => ∃ (v : V) (s : Sh), vs = [v] ∧ Is H v s ∧ Known H (items s) ∧ ∀ H', Same H H' → Q (faultV (due s)) H'
abbrev s_Ties_init : Stmt := inClass (top 16) 0
theorem sc_Ties_init : FnScope ["self", "backs", "what"] ["self", "backs"] (defScope s_Ties_init) := ⟨rfl, rfl, rfl, by decide +kernel, rfl, by decide +kernel, by decide +kernel⟩
def spTies (C CB : Addr) : Sp := fun vs H Q E => ∃ (x dx : Addr) (v : V) (s : Sh), vs = [.ref x, v] ∧ H x = some (.ins C dx []) ∧ Is H v s ∧ Known H (items s) ∧ (∀ w, due s = some w → Tells H CB "what" (.str w) E) ∧
  (∀ ns, due s = none → items s = ns.map V.int → ∀ H', But x H H' → TiesAt C H' x ns → Q .non H')
section
variable {P : Program} {w : World} {K : PySem.W.Frag} {mg : Str → Option Value} {base : Heap}
theorem ok_ties_fault {f fS fW : Addr} {fd fdS fdW : FuncData} (F : Fun K "ties_fault" "ties_fault" s_ties_fault f fd) (nl : mg "len" = none) (nr : mg "range" = none) (na : mg "all" = none) (mM : ∃ t, mg "MOST_TIES" = some (.int 4 t))
    (GS : Cal P w K mg base CX0 1 "is_sequence" fS fdS ["thing"] spSeq) (GW : Cal P w K mg base CX0 1 "is_whole" fW fdW ["thing", "low", "high"] spWhole) : FnOk P w K mg base CX0 2 f fd ["backs"] spFault := by
  obtain ⟨tM, mM⟩ := mM
  refine F.ok sc_ties_fault (fun vs H Q E h => ?_) (fun cdv A outer s H vs Q E hr h => ?_)
  · obtain ⟨v, s, rfl, _⟩ := h
    rfl
  · obtain ⟨v, sh, rfl, hv, kn, k⟩ := h
    cases sh with
    | sc u =>
      refine ⟨_, (pss_cons 
  (ps_if (pt_not (pt_val (pcal GS hr pass0 (pa_cons (pv 0) pa_nil)))) (pss_one 
    (ps_ret pe_str)) pss_nil) (pss_cons 
  (ps_set (i := 1) sc_ties_fault.nd rfl (Or.inr rfl) (pe_callB call_len_seq (by rfl) nl PySem.boot_len (pa_cons (pv 0) pa_nil))) (pss_cons 
  (ps_if (pt_not (pt_chain op_le op_le pe_int (pv 1) (pe_glob (v := .int 4) rfl mM ⟨_, rfl⟩))) (pss_one 
    (ps_ret pe_str)) pss_nil) (pss_cons 
  (ps_if (pt_not (pt_val (pe_callB (cr_all rfl) (by rfl) na (by decide +kernel) (pa_cons (pe_lc (own := [("back", 2)]) (g := gName 2) (by rfl) sc_ties_fault.nd (pi_list (pv 0)) (blkOk_by (own := [("back", 2)]) (N := ["backs", "many", "back", "tie"]) (sc := defScope s_ties_fault) (by decide +kernel)) (fun _ _ _ _ _ => pg_name (i := 2) sc_ties_fault.nd rfl (Or.inl rfl)) (fun _ _ _ _ _ => pts_nil) (fun _ _ _ _ _ => (pcal GW hr pass0 (pa_cons (pv 2) (pa_cons pe_int (pa_cons (pe_op op_sub (pv 1) pe_int) pa_nil)))))) pa_nil)))) (pss_one 
    (ps_ret pe_str)) pss_nil) (pss_cons 
  (ps_if (pt_not (pt_val (pe_callB (cr_all rfl) (by rfl) na (by decide +kernel) (pa_cons (pe_lc (own := [("tie", 3)]) (g := gName 3) (by rfl) sc_ties_fault.nd (pi_range1 (by rfl) nr (pa_cons (pv 1) pa_nil)) (blkOk_by (own := [("tie", 3)]) (N := ["backs", "many", "back", "tie"]) (sc := defScope s_ties_fault) (by decide +kernel)) (fun _ _ _ _ _ => pg_name (i := 3) sc_ties_fault.nd rfl (Or.inl rfl)) (fun _ _ _ _ _ => pts_nil) (fun _ _ _ _ _ => (pe_cmpR op_eq (pe_ix (r := rIxL K) ix_list (pv 0) (pe_ix (r := rIxL K) ix_list (pv 0) (pv 3) (fun _ _ => rfl)) (fun _ _ => rfl)) (pv 3) (nomark _)))) pa_nil)))) (pss_one 
    (ps_ret pe_str)) pss_nil) (pss_one 
  (ps_ret pe_non))))))), ?_⟩
      exact ⟨_, rfl, _, (.sc u), rfl, hv, fun H1 S1 => ⟨_, rfl, iteT (k _ S1)⟩⟩
    | dk =>
      refine ⟨_, (pss_cons 
  (ps_if (pt_not (pt_val (pcal GS hr pass0 (pa_cons (pv 0) pa_nil)))) (pss_one 
    (ps_ret pe_str)) pss_nil) (pss_cons 
  (ps_set (i := 1) sc_ties_fault.nd rfl (Or.inr rfl) (pe_callB call_len_seq (by rfl) nl PySem.boot_len (pa_cons (pv 0) pa_nil))) (pss_cons 
  (ps_if (pt_not (pt_chain op_le op_le pe_int (pv 1) (pe_glob (v := .int 4) rfl mM ⟨_, rfl⟩))) (pss_one 
    (ps_ret pe_str)) pss_nil) (pss_cons 
  (ps_if (pt_not (pt_val (pe_callB (cr_all rfl) (by rfl) na (by decide +kernel) (pa_cons (pe_lc (own := [("back", 2)]) (g := gName 2) (by rfl) sc_ties_fault.nd (pi_list (pv 0)) (blkOk_by (own := [("back", 2)]) (N := ["backs", "many", "back", "tie"]) (sc := defScope s_ties_fault) (by decide +kernel)) (fun _ _ _ _ _ => pg_name (i := 2) sc_ties_fault.nd rfl (Or.inl rfl)) (fun _ _ _ _ _ => pts_nil) (fun _ _ _ _ _ => (pcal GW hr pass0 (pa_cons (pv 2) (pa_cons pe_int (pa_cons (pe_op op_sub (pv 1) pe_int) pa_nil)))))) pa_nil)))) (pss_one 
    (ps_ret pe_str)) pss_nil) (pss_cons 
  (ps_if (pt_not (pt_val (pe_callB (cr_all rfl) (by rfl) na (by decide +kernel) (pa_cons (pe_lc (own := [("tie", 3)]) (g := gName 3) (by rfl) sc_ties_fault.nd (pi_range1 (by rfl) nr (pa_cons (pv 1) pa_nil)) (blkOk_by (own := [("tie", 3)]) (N := ["backs", "many", "back", "tie"]) (sc := defScope s_ties_fault) (by decide +kernel)) (fun _ _ _ _ _ => pg_name (i := 3) sc_ties_fault.nd rfl (Or.inl rfl)) (fun _ _ _ _ _ => pts_nil) (fun _ _ _ _ _ => (pe_cmpR op_eq (pe_ix (r := rIxL K) ix_list (pv 0) (pe_ix (r := rIxL K) ix_list (pv 0) (pv 3) (fun _ _ => rfl)) (fun _ _ => rfl)) (pv 3) (nomark _)))) pa_nil)))) (pss_one 
    (ps_ret pe_str)) pss_nil) (pss_one 
  (ps_ret pe_non))))))), ?_⟩
      exact ⟨_, rfl, _, .dk, rfl, hv, fun H1 S1 => ⟨_, rfl, iteT (k _ S1)⟩⟩
    | lst xs =>
      obtain ⟨p, rfl, hp⟩ := hv
      refine ⟨_, (pss_cons 
  (ps_if (pt_not (pt_val (pcal GS hr pass0 (pa_cons (pv 0) pa_nil)))) (pss_one 
    (ps_ret pe_str)) pss_nil) (pss_cons 
  (ps_set (i := 1) sc_ties_fault.nd rfl (Or.inr rfl) (pe_callB call_len_seq (by rfl) nl PySem.boot_len (pa_cons (pv 0) pa_nil))) (pss_cons 
  (ps_if (pt_not (pt_chain op_le op_le pe_int (pv 1) (pe_glob (v := .int 4) rfl mM ⟨_, rfl⟩))) (pss_one 
    (ps_ret pe_str)) pss_nil) (pss_cons 
  (ps_if (pt_not (pt_val (pe_callB (cr_all rfl) (by rfl) na (by decide +kernel) (pa_cons (pe_lc (own := [("back", 2)]) (g := gName 2) (by rfl) sc_ties_fault.nd (pi_list (pv 0)) (blkOk_by (own := [("back", 2)]) (N := ["backs", "many", "back", "tie"]) (sc := defScope s_ties_fault) (by decide +kernel)) (fun _ _ _ _ _ => pg_name (i := 2) sc_ties_fault.nd rfl (Or.inl rfl)) (fun _ _ _ _ _ => pts_nil) (fun _ _ _ _ _ => (pcal GW hr pass0 (pa_cons (pv 2) (pa_cons pe_int (pa_cons (pe_op op_sub (pv 1) pe_int) pa_nil)))))) pa_nil)))) (pss_one 
    (ps_ret pe_str)) pss_nil) (pss_cons 
  (ps_if (pt_not (pt_val (pe_callB (cr_all rfl) (by rfl) na (by decide +kernel) (pa_cons (pe_lc (own := [("tie", 3)]) (g := gName 3) (by rfl) sc_ties_fault.nd (pi_range1 (by rfl) nr (pa_cons (pv 1) pa_nil)) (blkOk_by (own := [("tie", 3)]) (N := ["backs", "many", "back", "tie"]) (sc := defScope s_ties_fault) (by decide +kernel)) (fun _ _ _ _ _ => pg_name (i := 3) sc_ties_fault.nd rfl (Or.inl rfl)) (fun _ _ _ _ _ => pts_nil) (fun _ _ _ _ _ => (pe_cmpR op_eq (pe_ix (r := rIxL K) ix_list (pv 0) (pe_ix (r := rIxL K) ix_list (pv 0) (pv 3) (fun _ _ => rfl)) (fun _ _ => rfl)) (pv 3) (nomark _)))) pa_nil)))) (pss_one 
    (ps_ret pe_str)) pss_nil) (pss_one 
  (ps_ret pe_non))))))), ?_⟩
      refine ⟨_, rfl, _, .lst xs, rfl, ⟨p, rfl, hp⟩, fun H1 S1 => ⟨_, rfl, iteF ?_⟩⟩
      have h1 := S1 _ _ hp
      have kn1 : Known H1 xs := kn.keep S1
      have say : ∀ (H2 : Hp) (o : Option Str), Same H1 H2 → dueS xs = o → Q (faultV o) H2 := fun H2 o S2 e => by
        have z := k _ (S1.trans S2)
        have e2 : due (.lst xs) = o := e
        rw [e2] at z
        exact z
      refine ⟨_, rfl, p, xs, rfl, .inl (SqL.of h1), ?_⟩
      refine ⟨_, rfl, _, _, rfl, rfl, _, rfl, ?_⟩
      by_cases c1 : (2 : Int) ≤ ((xs.length : Nat) : Int)
      case neg => exact if_fa (decide_eq_false c1) ⟨_, rfl, iteT (say _ (some "count") (Same.refl _) (fault_count (by omega)))⟩
      refine if_tr (decide_eq_true c1) ⟨_, _, rfl, rfl, _, rfl, ?_⟩
      by_cases c2 : ((xs.length : Nat) : Int) ≤ 4
      case neg =>
        rw [decide_eq_false c2]
        exact iteT (say _ (some "count") (Same.refl _) (fault_count (by omega)))
      rw [decide_eq_true c2]
      refine iteF ?_
      have c12 : 2 ≤ xs.length ∧ xs.length ≤ 4 := by omega
      refine ⟨_, rfl, p, rfl, ⟨_, SqL.of h1⟩, fun D hD => ?_⟩
      refine lc_list (K := K) (a := p) (xs := xs) (fun i H2 => Same H1 H2 ∧ H1 D = none ∧ H2 D = some (.lst ((xs.take i).map fun y => V.bl (wholeB y 0 ((xs.length : Nat) - 1))))) ⟨new_same hD, hD, upd_same⟩ (fun i H2 _ ⟨S, _⟩ => SqL.of (S _ _ h1)) ?_ ?_
      · rintro i y H2 hy ⟨S2, D0, eD⟩
        have hi := (List.getElem?_eq_some_iff.mp hy).1
        obtain ⟨sy, isy⟩ := kn1 y (List.mem_of_getElem? hy)
        refine ⟨rfl, yesT ?_⟩
        refine ⟨_, rfl, _, rfl, _, _, rfl, rfl, y, sy, _, _, rfl, isy.keep S2, _, eD, small1000 (by rw [List.length_map, List.length_take]; omega), fun b o e => ?_, D0, by rw [upd_same, List.take_add_one, hy, List.map_append]; rfl⟩
        rw [upd_ne (ne_of_none e D0)]
        exact S2 _ _ e
      rintro H2 ⟨S2, D0, eD⟩
      rw [List.take_length] at eD
      refine ⟨D, xs.map fun y => wholeB y 0 ((xs.length : Nat) - 1), rfl, SqL.of (by rw [eD, List.map_map]; rfl), _, rfl, ?_⟩
      cases ea : (xs.map fun y => wholeB y 0 ((xs.length : Nat) - 1)).all id with
      | false =>
        refine iteT (say _ (some "tie") S2 ?_)
        rw [List.all_map, List.all_eq_false] at ea
        obtain ⟨x, hx, hw⟩ := ea
        exact fault_tie c12 hx (by simpa using hw)
      | true =>
        refine iteF ?_
        rw [List.all_map, List.all_eq_true] at ea
        have hall : ∀ x ∈ xs, wholeB x 0 ((xs.length : Nat) - 1) = true := fun x hx => ea x hx
        obtain ⟨ns, hns, hr2⟩ := all_ints hall
        have hln : xs.length = ns.length := by rw [hns, List.length_map]
        refine ⟨_, rfl, (xs.length : Nat), rfl, by omega, by omega, fun E' hE => ?_⟩
        refine lc_range (lo := 0) (n := xs.length) (fun i H3 => Same H2 H3 ∧ H2 E' = none ∧ H3 E' = some (.lst ((List.range i).map fun j => V.bl (backB xs j)))) ⟨new_same hE, hE, upd_same⟩ ?_ ?_
        · rintro i H3 hi ⟨S3, E0, eE⟩
          have h3 := S3 _ _ (S2 _ _ h1)
          have hi' : i < ns.length := by omega
          have hbi : ns[i]? = some ns[i] := List.getElem?_eq_getElem hi'
          have hmem := hr2 _ (List.getElem_mem hi')
          generalize ns[i] = b at hbi hmem
          have hbl : b.toNat < ns.length := by omega
          have hci : ns[b.toNat]? = some ns[b.toNat] := List.getElem?_eq_getElem hbl
          generalize ns[b.toNat] = c at hci
          have hbk := backB_iff hbi
          rw [← hns, hci] at hbk
          have val : decide (V.int c = V.int (0 + (i : Nat))) = backB xs i := by
            rw [hbk]
            by_cases z : c = (i : Int) <;> simp [z]
          refine ⟨rfl, yesT ?_⟩
          refine ⟨_, rfl, _, rfl, _, rfl, _, _, _, _, rfl, rfl, SqL.of h3, at_of (j := i) (v := .int b) (by omega) (by rw [hns]; exact ints_at hbi), _, _, _, _, rfl, rfl, SqL.of h3, at_of (j := b.toNat) (v := .int c) (by omega) (by rw [hns]; exact ints_at hci), _, rfl, rfl, _, eE, small1000 (by rw [List.length_map, List.length_range]; omega), fun b' o e => ?_, E0, ?_⟩
          · rw [upd_ne (ne_of_none e E0)]
            exact S3 _ _ e
          · rw [upd_same, val, List.range_succ, List.map_append]
            rfl
        rintro H3 ⟨S3, E0, eE⟩
        refine ⟨E', (List.range xs.length).map (backB xs), rfl, SqL.of (by rw [eE, List.map_map]; rfl), _, rfl, ?_⟩
        cases eb : ((List.range xs.length).map (backB xs)).all id with
        | false =>
          refine iteT (say _ (some "back") (S2.trans S3) ?_)
          rw [List.all_map, List.all_eq_false] at eb
          obtain ⟨j, hj, hw⟩ := eb
          exact fault_back c12 hall (List.mem_range.mp hj) (by simpa using hw)
        | true =>
          refine iteF (say _ none (S2.trans S3) ?_)
          rw [List.all_map, List.all_eq_true] at eb
          exact fault_none c12 hall fun j hj => eb j (List.mem_range.mpr hj)
    | tup xs =>
      obtain ⟨p, rfl, hp⟩ := hv
      refine ⟨_, (pss_cons 
  (ps_if (pt_not (pt_val (pcal GS hr pass0 (pa_cons (pv 0) pa_nil)))) (pss_one 
    (ps_ret pe_str)) pss_nil) (pss_cons 
  (ps_set (i := 1) sc_ties_fault.nd rfl (Or.inr rfl) (pe_callB call_len_seq (by rfl) nl PySem.boot_len (pa_cons (pv 0) pa_nil))) (pss_cons 
  (ps_if (pt_not (pt_chain op_le op_le pe_int (pv 1) (pe_glob (v := .int 4) rfl mM ⟨_, rfl⟩))) (pss_one 
    (ps_ret pe_str)) pss_nil) (pss_cons 
  (ps_if (pt_not (pt_val (pe_callB (cr_all rfl) (by rfl) na (by decide +kernel) (pa_cons (pe_lc (own := [("back", 2)]) (g := gName 2) (by rfl) sc_ties_fault.nd (pi_tup (pv 0)) (blkOk_by (own := [("back", 2)]) (N := ["backs", "many", "back", "tie"]) (sc := defScope s_ties_fault) (by decide +kernel)) (fun _ _ _ _ _ => pg_name (i := 2) sc_ties_fault.nd rfl (Or.inl rfl)) (fun _ _ _ _ _ => pts_nil) (fun _ _ _ _ _ => (pcal GW hr pass0 (pa_cons (pv 2) (pa_cons pe_int (pa_cons (pe_op op_sub (pv 1) pe_int) pa_nil)))))) pa_nil)))) (pss_one 
    (ps_ret pe_str)) pss_nil) (pss_cons 
  (ps_if (pt_not (pt_val (pe_callB (cr_all rfl) (by rfl) na (by decide +kernel) (pa_cons (pe_lc (own := [("tie", 3)]) (g := gName 3) (by rfl) sc_ties_fault.nd (pi_range1 (by rfl) nr (pa_cons (pv 1) pa_nil)) (blkOk_by (own := [("tie", 3)]) (N := ["backs", "many", "back", "tie"]) (sc := defScope s_ties_fault) (by decide +kernel)) (fun _ _ _ _ _ => pg_name (i := 3) sc_ties_fault.nd rfl (Or.inl rfl)) (fun _ _ _ _ _ => pts_nil) (fun _ _ _ _ _ => (pe_cmpR op_eq (pe_ix (r := rIxT K) ix_tup (pv 0) (pe_ix (r := rIxT K) ix_tup (pv 0) (pv 3) (fun _ _ => rfl)) (fun _ _ => rfl)) (pv 3) (nomark _)))) pa_nil)))) (pss_one 
    (ps_ret pe_str)) pss_nil) (pss_one 
  (ps_ret pe_non))))))), ?_⟩
      refine ⟨_, rfl, _, .tup xs, rfl, ⟨p, rfl, hp⟩, fun H1 S1 => ⟨_, rfl, iteF ?_⟩⟩
      have h1 := S1 _ _ hp
      have kn1 : Known H1 xs := kn.keep S1
      have say : ∀ (H2 : Hp) (o : Option Str), Same H1 H2 → dueS xs = o → Q (faultV o) H2 := fun H2 o S2 e => by
        have z := k _ (S1.trans S2)
        have e2 : due (.tup xs) = o := e
        rw [e2] at z
        exact z
      refine ⟨_, rfl, p, xs, rfl, .inr (SqT.of h1), ?_⟩
      refine ⟨_, rfl, _, _, rfl, rfl, _, rfl, ?_⟩
      by_cases c1 : (2 : Int) ≤ ((xs.length : Nat) : Int)
      case neg => exact if_fa (decide_eq_false c1) ⟨_, rfl, iteT (say _ (some "count") (Same.refl _) (fault_count (by omega)))⟩
      refine if_tr (decide_eq_true c1) ⟨_, _, rfl, rfl, _, rfl, ?_⟩
      by_cases c2 : ((xs.length : Nat) : Int) ≤ 4
      case neg =>
        rw [decide_eq_false c2]
        exact iteT (say _ (some "count") (Same.refl _) (fault_count (by omega)))
      rw [decide_eq_true c2]
      refine iteF ?_
      have c12 : 2 ≤ xs.length ∧ xs.length ≤ 4 := by omega
      refine ⟨_, rfl, p, rfl, ⟨_, SqT.of h1⟩, fun D hD => ?_⟩
      refine lc_tup (K := K) (a := p) (xs := xs) (fun i H2 => Same H1 H2 ∧ H1 D = none ∧ H2 D = some (.lst ((xs.take i).map fun y => V.bl (wholeB y 0 ((xs.length : Nat) - 1))))) ⟨new_same hD, hD, upd_same⟩ (fun i H2 _ ⟨S, _⟩ => SqT.of (S _ _ h1)) ?_ ?_
      · rintro i y H2 hy ⟨S2, D0, eD⟩
        have hi := (List.getElem?_eq_some_iff.mp hy).1
        obtain ⟨sy, isy⟩ := kn1 y (List.mem_of_getElem? hy)
        refine ⟨rfl, yesT ?_⟩
        refine ⟨_, rfl, _, rfl, _, _, rfl, rfl, y, sy, _, _, rfl, isy.keep S2, _, eD, small1000 (by rw [List.length_map, List.length_take]; omega), fun b o e => ?_, D0, by rw [upd_same, List.take_add_one, hy, List.map_append]; rfl⟩
        rw [upd_ne (ne_of_none e D0)]
        exact S2 _ _ e
      rintro H2 ⟨S2, D0, eD⟩
      rw [List.take_length] at eD
      refine ⟨D, xs.map fun y => wholeB y 0 ((xs.length : Nat) - 1), rfl, SqL.of (by rw [eD, List.map_map]; rfl), _, rfl, ?_⟩
      cases ea : (xs.map fun y => wholeB y 0 ((xs.length : Nat) - 1)).all id with
      | false =>
        refine iteT (say _ (some "tie") S2 ?_)
        rw [List.all_map, List.all_eq_false] at ea
        obtain ⟨x, hx, hw⟩ := ea
        exact fault_tie c12 hx (by simpa using hw)
      | true =>
        refine iteF ?_
        rw [List.all_map, List.all_eq_true] at ea
        have hall : ∀ x ∈ xs, wholeB x 0 ((xs.length : Nat) - 1) = true := fun x hx => ea x hx
        obtain ⟨ns, hns, hr2⟩ := all_ints hall
        have hln : xs.length = ns.length := by rw [hns, List.length_map]
        refine ⟨_, rfl, (xs.length : Nat), rfl, by omega, by omega, fun E' hE => ?_⟩
        refine lc_range (lo := 0) (n := xs.length) (fun i H3 => Same H2 H3 ∧ H2 E' = none ∧ H3 E' = some (.lst ((List.range i).map fun j => V.bl (backB xs j)))) ⟨new_same hE, hE, upd_same⟩ ?_ ?_
        · rintro i H3 hi ⟨S3, E0, eE⟩
          have h3 := S3 _ _ (S2 _ _ h1)
          have hi' : i < ns.length := by omega
          have hbi : ns[i]? = some ns[i] := List.getElem?_eq_getElem hi'
          have hmem := hr2 _ (List.getElem_mem hi')
          generalize ns[i] = b at hbi hmem
          have hbl : b.toNat < ns.length := by omega
          have hci : ns[b.toNat]? = some ns[b.toNat] := List.getElem?_eq_getElem hbl
          generalize ns[b.toNat] = c at hci
          have hbk := backB_iff hbi
          rw [← hns, hci] at hbk
          have val : decide (V.int c = V.int (0 + (i : Nat))) = backB xs i := by
            rw [hbk]
            by_cases z : c = (i : Int) <;> simp [z]
          refine ⟨rfl, yesT ?_⟩
          refine ⟨_, rfl, _, rfl, _, rfl, _, _, _, _, rfl, rfl, SqT.of h3, at_of (j := i) (v := .int b) (by omega) (by rw [hns]; exact ints_at hbi), _, _, _, _, rfl, rfl, SqT.of h3, at_of (j := b.toNat) (v := .int c) (by omega) (by rw [hns]; exact ints_at hci), _, rfl, rfl, _, eE, small1000 (by rw [List.length_map, List.length_range]; omega), fun b' o e => ?_, E0, ?_⟩
          · rw [upd_ne (ne_of_none e E0)]
            exact S3 _ _ e
          · rw [upd_same, val, List.range_succ, List.map_append]
            rfl
        rintro H3 ⟨S3, E0, eE⟩
        refine ⟨E', (List.range xs.length).map (backB xs), rfl, SqL.of (by rw [eE, List.map_map]; rfl), _, rfl, ?_⟩
        cases eb : ((List.range xs.length).map (backB xs)).all id with
        | false =>
          refine iteT (say _ (some "back") (S2.trans S3) ?_)
          rw [List.all_map, List.all_eq_false] at eb
          obtain ⟨j, hj, hw⟩ := eb
          exact fault_back c12 hall (List.mem_range.mp hj) (by simpa using hw)
        | true =>
          refine iteF (say _ none (S2.trans S3) ?_)
          rw [List.all_map, List.all_eq_true] at eb
          exact fault_none c12 hall fun j hj => eb j (List.mem_range.mpr hj)
theorem ok_Ties_init {f C CB fC fI : Addr} {fd fdC fdI : FuncData} (F : Fun K "__init__" "Ties.__init__" s_Ties_init f fd) (T : TiC K C) (nl : mg "len" = none) (nt : mg "tuple" = none)
    (GF : Cal P w K mg base CX0 2 "ties_fault" fC fdC ["backs"] spFault) (GB : Ex P w K mg base "BadTies" "what" CB fI fdI ["self", "what"]) : FnOk P w K mg base (L2.CX P w) 4 f fd ["self", "backs"] (spTies C CB) := by
  refine F.okX sc_Ties_init (fun vs H Q E h => ?_) (fun cdv A outer s H vs Q E hr h => ?_)
  · obtain ⟨x, dx, v, s, rfl, _⟩ := h
    rfl
  · obtain ⟨x, dx, v, sh, rfl, hx, hv, kn, k1, k2⟩ := h
    refine ⟨_, (pss_cons 
  (ps_set (i := 2) sc_Ties_init.nd rfl (Or.inl rfl) (pcal GF hr pass0 (pa_cons (pv 1) pa_nil))) (pss_cons 
  (ps_if (pt_cmpR op_notN (pv 2) pe_non (nomark _)) (pss_one 
    (ps_raise rfl (takes_of rfl rfl rfl rfl) (pmk_oex GB.o GB.i GB.t GB.F (hr.mono (by decide)) GB.b .nil pass0 rfl GB.m (pa_cons (pv 2) pa_nil)))) pss_nil) (pss_cons 
  (ps_fld (pv 0) (pe_callTy (T := "tuple") (r := fun xs H Q => ∃ p ys, xs = [.ref p] ∧ ((SqL K H p ys ∧ ∀ l, H l = none → Q (.ref l) (upd H l (.tup ys))) ∨ (SqT K H p ys ∧ Q (.ref p) H))) call_tuple_of (by rfl) nt (by decide +kernel) (pa_cons (pv 1) pa_nil)) rfl) (pss_one 
  (ps_fld (pv 0) (pe_callB call_len_seq (by rfl) nl PySem.boot_len (pa_cons (pe_fld (pv 0) rfl) pa_nil)) rfl))))), ?_⟩
    refine ⟨_, rfl, v, sh, rfl, hv, kn, fun H1 S1 => ?_⟩
    have k1' := k1
    cases hd : due sh with
    | some u =>
      refine ⟨_, rfl, rfl, _, rfl, if_tr (by simp [faultV]) ⟨_, rfl, mkO_of ((k1 u hd).mono S1)⟩⟩
    | none =>
      refine ⟨_, rfl, rfl, _, rfl, if_fa (by simp [faultV]) ?_⟩
      have hx1 := S1 _ _ hx
      cases sh with
      | sc u => cases hd
      | dk => cases hd
      | lst xs =>
        obtain ⟨p, rfl, hp⟩ := hv
        obtain ⟨ns, e, g⟩ := good_of hd
        subst e
        have npx : p ≠ x := ne_of hp hx (by intro z; cases z)
        have h1 := S1 _ _ hp
        refine ⟨_, rfl, p, _, rfl, .inl ⟨SqL.of h1, fun t ht => ?_⟩⟩
        have ntx : t ≠ x := (ne_of_none hx1 ht).symm
        refine ⟨_, rfl, x, C, dx, [], rfl, (by rw [upd_ne ntx.symm]; exact hx1), T.cl, T.nB, (by show 0 < 1000; decide), ?_⟩
        refine ⟨_, rfl, x, C, dx, _, _, rfl, upd_same, T.cl, T.nB, (by rw [lookup_putF, if_pos rfl]), t, _, rfl, .inr (SqT.of (by rw [upd_ne ntx, upd_same])), ?_⟩
        refine ⟨_, rfl, x, C, dx, _, rfl, upd_same, T.cl, T.nM, (by show 1 < 1000; decide), ?_⟩
        refine k2 ns hd rfl _ (fun b o nb eb => ?_) ⟨dx, t, by rw [upd_same, List.length_map]; rfl, by rw [upd_ne ntx, upd_ne ntx, upd_same]⟩
        have e1 := S1 _ _ eb
        rw [upd_ne nb, upd_ne nb, upd_ne (ne_of_none e1 ht)]
        exact e1
      | tup xs =>
        obtain ⟨p, rfl, hp⟩ := hv
        obtain ⟨ns, e, g⟩ := good_of hd
        subst e
        have npx : p ≠ x := ne_of hp hx (by intro z; cases z)
        have h1 := S1 _ _ hp
        refine ⟨_, rfl, p, _, rfl, .inr ⟨SqT.of h1, ?_⟩⟩
        refine ⟨_, rfl, x, C, dx, [], rfl, hx1, T.cl, T.nB, (by show 0 < 1000; decide), ?_⟩
        refine ⟨_, rfl, x, C, dx, _, _, rfl, upd_same, T.cl, T.nB, (by rw [lookup_putF, if_pos rfl]), p, _, rfl, .inr (SqT.of (by rw [upd_ne npx]; exact h1)), ?_⟩
        refine ⟨_, rfl, x, C, dx, _, rfl, upd_same, T.cl, T.nM, (by show 1 < 1000; decide), ?_⟩
        refine k2 ns hd rfl _ (fun b o nb eb => ?_) ⟨dx, p, by rw [upd_same, List.length_map]; rfl, by rw [upd_ne npx, upd_ne npx]; exact h1⟩
        rw [upd_ne nb, upd_ne nb]
        exact S1 _ _ eb
end
end J

set_option Elab.async false
set_option linter.all false
set_option maxRecDepth 100000
set_option maxHeartbeats 4000000
namespace J
open PySem PySem.Spec PyProof.Rows L2
def wordV : Option Str → V
  | none => .non
  | some w => .str w
def spDueX : Sp := fun vs H Q E => ∃ (v : V) (s : Sh), vs = [v] ∧ Is H v s ∧ Known H (items s) ∧ ∀ H', Same H H' → Q (wordV (due s)) H'
theorem dueS_count {xs : List V} (h : ¬ (2 ≤ xs.length ∧ xs.length ≤ 4)) : dueS xs = some ("count" : Str) := by
  unfold dueS
  rw [if_neg h]
theorem dueS_tie {xs : List V} {x : V} (h : 2 ≤ xs.length ∧ xs.length ≤ 4) (hx : x ∈ xs) (e : wholeB x 0 ((xs.length : Nat) - 1) = false) : dueS xs = some ("tie" : Str) := by
  unfold dueS
  rw [if_pos h, if_neg]
  intro q
  rw [q x hx] at e
  cases e
theorem dueS_back {xs : List V} {k : Nat} (h : 2 ≤ xs.length ∧ xs.length ≤ 4) (ha : ∀ x ∈ xs, wholeB x 0 ((xs.length : Nat) - 1) = true) (hk : k < xs.length) (e : backB xs k = false) : dueS xs = some ("back" : Str) := by
  unfold dueS
  rw [if_pos h, if_pos ha, if_neg]
  intro q
  rw [q k hk] at e
  cases e
theorem dueS_none {xs : List V} (h : 2 ≤ xs.length ∧ xs.length ≤ 4) (ha : ∀ x ∈ xs, wholeB x 0 ((xs.length : Nat) - 1) = true) (e : ∀ k, k < xs.length → backB xs k = true) : dueS xs = none := by
  unfold dueS
  rw [if_pos h, if_pos ha, if_pos e]
theorem whole_lo {n lo hi : Int} (h : ¬ lo ≤ n) : wholeB (.int n) lo hi = false := by
  show (decide (lo ≤ n) && decide (n ≤ hi)) = false
  rw [decide_eq_false h]
  rfl
theorem whole_hi {n lo hi : Int} (h : ¬ n ≤ hi) : wholeB (.int n) lo hi = false := by
  show (decide (lo ≤ n) && decide (n ≤ hi)) = false
  rw [decide_eq_false h, Bool.and_false]
theorem is_new {K : PySem.W.Frag} {H : Hp} {x : V} {s : Sh} {p : Addr} (hx : Is H x s) (hp : H p = none) : ∃ t : String, TyX K (upd H p (.tup [.ty "list", .ty "tuple"])) x (.type t) ∧ PySem.W.kitAny K (.type t) [.type "list", .type "tuple"] = some (s.isL || s.isT) := by
  obtain ⟨t, ht, _, _, k1, k2⟩ := (hx.keep (new_same hp)).ty (K := K)
  exact ⟨t, ht, kit_seq k1 k2⟩
theorem isi_seq2 {K : PySem.W.Frag} {H : Hp} {x : V} {s : Sh} {Q : VK} {p : Addr} (hx : Is H x s) (hp : H p = none) (k : ∀ H', Same H H' → Q (.bl (s.isL || s.isT)) H') : rIsiT K [x, .ref p] (upd H p (.tup [.ty "list", .ty "tuple"])) Q := (isi_seq hx k).2 p hp
section
variable {P : Program} {w : World} {K : PySem.W.Frag} {mg : Str → Option Value} {base : Heap}
end
end J

set_option Elab.async false
set_option linter.all false
set_option maxRecDepth 100000
set_option maxHeartbeats 4000000
namespace J
open PySem PySem.Spec PyProof.Rows L2
/-! ### calls that may raise, within a try -/
section
variable {X : Cx} {CX : CXT} {k : Nat} {f C : Addr} {fd : FuncData} {ps : List Str} {sp : Sp} {E : L2.St → XK} {x m : Str} {p pos apos : Pos} {e o : Expr} {es : List Expr} {ta : TE} {t : TA}
def tMethS (m : Str) (sp : Sp) (C : Addr) (E : L2.St → XK) (ta : TE) (t : TA) : TE := fun σ H Q => ta σ H fun x H1 => ∃ a dx fs, x = .ref a ∧ H1 a = some (.ins C dx fs) ∧ fs.lookup m = none ∧ t σ H1 fun vs H2 => sp (.ref a :: vs) H2 Q (E σ)
theorem pmetS {pl : Sem Bool} (he : PE X o ta) (c : Cls X.K C) (hm : Meth X.K C m f) (F : FnOk X.prog X.w X.K X.mg X.base CX k f fd ps sp) (hr : Room k X.A) (hb : Binds X.K fd ps [])
    (hx : ∀ σ, PassesAt CX X σ (E σ)) (ha : PA X (e :: es) t)
    (hst : starEach (e :: es) X.env = (false, eval e X.env) :: starEach es X.env := by rfl)
    (hpl : (backTo pos (starEach es X.env)).any (·.1) = false := by rfl)
    (ht : eval (.Call (.Attribute o m apos) (e :: es) [] pos) X.env = (do let ov ← eval o X.env; standAt apos.atName; let (f, first) ← holding [ov] (getMethod ov m pl); callWith pos f first (backTo pos (starEach (e :: es) X.env)) (backToKw pos (keywordEach [] X.env))) := by rfl) :
    PE X (.Call (.Attribute o m apos) (e :: es) [] pos) (tMethS m sp C E ta t) := by
  constructor
  intro pins s σ H Q I h
  refine PySem.W.methodCall_KW (pl := pl) (thn (he.run pins s σ H _ I h) ?_) ht
  rintro u s1 ⟨x, H1, I1, rx, a, dx, fs, ex, ea, l, q⟩
  subst ex
  obtain rfl : u = Value.ref a := rx
  apply getmeth_ok I1 ea c hm l
  refine PySem.W.callWith_K (first := [.ref a]) (h₀ := X.base) I.ok.mod.kin hm.kp (thn (ha.run pos pins s1 σ H1 _ I1 q) ?_) hst hpl
  rintro us s2 ⟨vs, H2, I2, r, q2⟩
  refine ⟨I2.kIn, ?_⟩
  exact run_fnS (us := .ref a :: us) (vs := .ref a :: vs) F hr hb (hx σ) I2 (.cons rfl r) q2
def tMakeS (C : Addr) (sp : Sp) (E : L2.St → XK) (t : TA) : TE := fun σ H Q => t σ H fun vs H1 => ∀ x dx, H1 x = none → H1 dx = none → dx ≠ x → sp (.ref x :: vs) (upd (upd H1 dx (.own x)) x (.ins C dx [])) (fun v H2 => v = .non ∧ Q (.ref x) H2) (E σ)
theorem pmakS (M : Mk X.K C f) (F : FnOk X.prog X.w X.K X.mg X.base CX k f fd ps sp) (hr : Room (k + 1) X.A) (hg : Gl X x) (hm : X.mg x = some (.ref C)) (hb : Binds X.K fd ps []) (hx : ∀ σ, PassesAt CX X σ (E σ))
    (ha : PA X (e :: es) t) (hdb : (x == ("__debug__" : Str)) = false := by decide)
    (he : starEach (e :: es) X.env = (false, eval e X.env) :: starEach es X.env := by rfl)
    (hpl : (backTo pos (starEach es X.env)).any (·.1) = false := by rfl) :
    PE X (.Call (.Name x p) (e :: es) [] pos) (tMakeS C sp E t) := by
  constructor
  intro pins s σ H Q I h
  refine wpAny_Call_Name_kw (ld_glob I hg hm ?_ hdb)
  refine PySem.W.callWith_K (h₀ := X.base) I.ok.mod.kin M.kp (thn (ha.run pos pins s σ H _ I h) ?_) he hpl
  rintro us s1 ⟨vs, H1, I1, r, q⟩
  refine ⟨I1.kIn, ?_⟩
  have hq := q (s1.heap.objs.size + 1) s1.heap.objs.size (I1.hok.fresh (Nat.le_succ _)) (I1.hok.fresh (Nat.le_refl _)) (Nat.ne_of_lt (Nat.lt_succ_self _))
  have I2 := Inv.made (C := C) I1
  have r2 : Vals (V.ref (s1.heap.objs.size + 1) :: vs) (Value.ref (s1.heap.objs.size + 1) :: us) := .cons rfl r
  have hl : (Value.ref (s1.heap.objs.size + 1) :: us).length = ps.length := by
    rw [← r2.length]
    exact F.len _ _ _ _ hq
  have bd := hb _ (Value.ref (s1.heap.objs.size + 1) :: us) I2.kIn (by rw [List.append_nil]; exact hl)
  rw [List.append_nil] at bd
  have run := F.run _ X.stack _ _ ⟨Value.ref (s1.heap.objs.size + 1) :: us, []⟩ (Value.ref (s1.heap.objs.size + 1) :: us) _ _ (E σ) (hr.make C us []) (I2.env0.make C us []) bd r2 hq
  refine wpAny_call (make_map (f := f) I1.kIn M.makes M.init (beq_iff_eq.mp M.fn) (codeAny_mono run ?_))
  intro r s' hq'
  rcases r with er | fl
  · exact hx σ pins _ _ er s' I2 hq'
  · cases fl with
    | ret u =>
      obtain ⟨v, H', I3, rv, ev, q3⟩ := I2.after hq'
      subst ev
      exact ⟨rv, V.ref (s1.heap.objs.size + 1), H', I3, rfl, q3⟩
    | next => exact hq'.elim
    | brk => exact hq'.elim
    | cont => exact hq'.elim
end
/-! ### == by the text's own __eq__ -/
def rEqOwn (C : Addr) (sp : Sp) (E : XK) : R2 := fun x y H Q => ∃ a b dx fs, x = .ref a ∧ y = .ref b ∧ H a = some (.ins C dx fs) ∧ ((∃ dy gs, H b = some (.ins C dy gs)) ∨ ∃ ys, H b = some (.tup ys)) ∧ sp [x, y] H (fun v H' => (∃ c, v = .bl c) ∧ Q v H') E
theorem op_eqOwn {X : Cx} {CX : CXT} {n : Nat} {C f : Addr} {fd : FuncData} {ps : List Str} {sp : Sp} {E : XK} (F : FnOk X.prog X.w X.K X.mg X.base CX n f fd ps sp)
    (hs : PySem.W.findIn X.K (.ref C) "__eq__" = some (some (.ref f))) (hf : PySem.W.isFn X.K (.ref f) = true) (hb : Binds X.K fd ps []) (hx : Passes CX X E) (hr : Room n X.A)
    (hn : PySem.W.notFirst X.K C (.type "tuple") = true) : OpR X (compareOp .Eq) (rEqOwn C sp E) := by
  intro pins s σ H x y v u Q I rx ry ⟨a, b, dx, fs, ex, ey, ha, hy, q⟩
  subst ex
  subst ey
  obtain rfl : v = Value.ref a := rx
  obtain rfl : u = Value.ref b := ry
  show wpAny (model X.prog X.w) X.A (richCompare .Eq (.ref a) (.ref b)) (EP X pins σ Q) X.xe s
  obtain ⟨mA, J, _⟩ := ins_get I.hok ha
  obtain ⟨od, J, _⟩ := J.look
  obtain ⟨m, hF⟩ := I.fr
  have r2 : Vals [V.ref a, V.ref b] [Value.ref a, Value.ref b] := .cons rfl (.cons rfl .nil)
  have fin : wpAny (model X.prog X.w) X.A (call (.ref f) [.ref a, .ref b]) (PySem.W.CmpBack (EP X pins σ Q)) X.xe s := by
    refine wpAny_mono (run_fn (dvs := []) (ds := []) (us := [.ref a, .ref b]) (vs := [.ref a, .ref b]) F hr hb .nil hx I r2 q) ?_ fun _ _ z => z
    rintro w s' ⟨z, H', I', rz, ⟨c, rfl⟩, qz⟩
    obtain rfl : w = Value.bool c := rz
    exact ⟨V.bl c, H', I', rfl, qz⟩
  rcases hy with ⟨dy, gs, hb'⟩ | ⟨ys, hb'⟩
  · obtain ⟨mB, J', _⟩ := ins_get I.hok hb'
    obtain ⟨od', J', _⟩ := J'.look
    exact PySem.W.cmp_K (op := .Eq) (tb := .ref C) hr.units0 hF I.ok.mod.kin J J'.type (by simp [PySem.W.notFirst]) hs hf fin
  · obtain ⟨its, rv, ⟨o, h1, h2, _⟩, _⟩ := I.tuple (SqT.of hb')
    have LT : PySem.W.Looks (model X.prog X.w) s.heap (typeOf (.ref b)) (.type "tuple") := fun A Q E s k q => wpAny_typeOf_ref (k _ _ h1) (by rw [h2]; exact q)
    exact PySem.W.cmp_K (op := .Eq) (tb := .type "tuple") hr.units0 hF I.ok.mod.kin J LT hn hs hf fin
/-! ### == of data -/
theorem eqv_ints : ∀ ns ms : List Int, PyData.eqvAll (ns.map PyData.int) (ms.map PyData.int) = decide (ns = ms)
  | [], [] => by simp [PyData.eqvAll]
  | [], m :: ms => by simp [PyData.eqvAll]
  | n :: ns, [] => by simp [PyData.eqvAll]
  | n :: ns, m :: ms => by
    have ih := eqv_ints ns ms
    simp only [List.map_cons, PyData.eqvAll, PyData.eqv, ih]
    by_cases h : n = m
    · by_cases h2 : ns = ms
      · simp [h, h2]
      · simp [h, h2]
    · simp [h]
theorem dp_ints {K : PySem.W.Frag} {H : Hp} : ∀ ns : List Int, DpAll K H (ns.map V.int) (ns.map PyData.int)
  | [] => .nil
  | n :: ns => .cons (.int n) (dp_ints ns)
theorem ints_lay : ∀ ns : List Int, PyData.canLayAll0 (ns.map PyData.int) = true
  | [] => by simp [PyData.canLayAll0]
  | n :: ns => by
    have ih := ints_lay ns
    simp only [List.map_cons, PyData.canLayAll0, ih, PyData.canLay0, Bool.and_self]
theorem ints_depth : ∀ ns : List Int, PyData.depthAll (ns.map PyData.int) ≤ 1
  | [] => by simp [PyData.depthAll]
  | n :: ns => by
    have ih := ints_depth ns
    simp only [List.map_cons, PyData.depthAll, PyData.depth]
    omega
theorem shaped_li (ns : List Int) : SeqAt.shaped (.list (ns.map PyData.int)) = true := by
  have h := ints_depth ns
  show (PyData.canLay0 (.list (ns.map PyData.int)) && decide (PyData.depth (.list (ns.map PyData.int)) ≤ 64)) = true
  rw [Bool.and_eq_true]
  refine ⟨by simp only [PyData.canLay0]; exact ints_lay ns, decide_eq_true ?_⟩
  simp only [PyData.depth]
  omega
theorem shaped_ti (ns : List Int) : SeqAt.shaped (.tuple (ns.map PyData.int)) = true := by
  have h := ints_depth ns
  show (PyData.canLay0 (.tuple (ns.map PyData.int)) && decide (PyData.depth (.tuple (ns.map PyData.int)) ≤ 64)) = true
  rw [Bool.and_eq_true]
  refine ⟨by simp only [PyData.canLay0]; exact ints_lay ns, decide_eq_true ?_⟩
  simp only [PyData.depth]
  omega
theorem eqv_li (ns ms : List Int) : PyData.eqv (.list (ns.map PyData.int)) (.list (ms.map PyData.int)) = decide (ns = ms) := by
  simp only [PyData.eqv]
  exact eqv_ints ns ms
theorem eqv_ti (ns ms : List Int) : PyData.eqv (.tuple (ns.map PyData.int)) (.tuple (ms.map PyData.int)) = decide (ns = ms) := by
  simp only [PyData.eqv]
  exact eqv_ints ns ms
end J

set_option Elab.async false
set_option linter.all false
set_option maxRecDepth 100000
set_option maxHeartbeats 4000000
namespace J
open PySem PySem.Spec PyProof.Rows L2
/-! ### backs that are drawn: the mathematics -/
structure BI (m : Nat) (ns ls : List Int) : Prop where
  len : ns.length = m
  rng : ∀ n ∈ ns, 0 ≤ n ∧ n < (m : Nat)
  inv : ∀ (k : Nat) (b : Int), ns[k]? = some b → ns[b.toNat]? = some (k : Int)
  nd : ls.Nodup
  fx : ∀ z ∈ ls, 0 ≤ z ∧ z < (m : Nat) ∧ ns[z.toNat]? = some z
theorem map_erase {α β : Type} (f : α → β) : ∀ (l : List α) (k : Nat), (l.map f).eraseIdx k = (l.eraseIdx k).map f
  | [], _ => rfl
  | a :: l, 0 => rfl
  | a :: l, k + 1 => by
    show f a :: (l.map f).eraseIdx k = f a :: (l.eraseIdx k).map f
    rw [map_erase f l k]
theorem erase_mem {l : List Int} (nd : l.Nodup) {i : Nat} {a z : Int} (ha : l[i]? = some a) (hz : z ∈ l.eraseIdx i) : z ∈ l ∧ z ≠ a := by
  obtain ⟨j, hj, e⟩ := List.mem_eraseIdx_iff_getElem?.mp hz
  refine ⟨List.mem_of_getElem? e, fun q => hj ?_⟩
  subst q
  exact nd_ix nd e ha
theorem BI.step {m : Nat} {ns ls : List Int} (B : BI m ns ls) {i j : Nat} {a b : Int} (ha : ls[i]? = some a) (hb : (ls.eraseIdx i)[j]? = some b) : BI m ((ns.set a.toNat b).set b.toNat a) ((ls.eraseIdx i).eraseIdx j) := by
  have nd1 : (ls.eraseIdx i).Nodup := B.nd.sublist (List.eraseIdx_sublist ls i)
  obtain ⟨mb, nab⟩ := erase_mem B.nd ha (List.mem_of_getElem? hb)
  have ma := List.mem_of_getElem? ha
  obtain ⟨a0, a1, af⟩ := B.fx a ma
  obtain ⟨b0, b1, bf⟩ := B.fx b mb
  have nt : b.toNat ≠ a.toNat := by omega
  have la : a.toNat < ns.length := by rw [B.len]; omega
  have lb : b.toNat < ns.length := by rw [B.len]; omega
  have get : ∀ k : Nat, ((ns.set a.toNat b).set b.toNat a)[k]? = if b.toNat = k then some a else if a.toNat = k then some b else ns[k]? := fun k => by
    rw [List.getElem?_set]
    split
    · rw [List.length_set, if_pos (by omega)]
    · rw [List.getElem?_set]
      split
      · first
          | rfl
          | rw [if_pos (by omega)]
      · rfl
  refine ⟨by rw [List.length_set, List.length_set]; exact B.len, fun n hn => ?_, fun k c hc => ?_, nd1.sublist (List.eraseIdx_sublist _ j), fun z hz => ?_⟩
  · rcases List.mem_or_eq_of_mem_set hn with hn | rfl
    · rcases List.mem_or_eq_of_mem_set hn with hn | rfl
      · exact B.rng n hn
      · exact ⟨b0, b1⟩
    · exact ⟨a0, a1⟩
  · rw [get] at hc
    split at hc
    · rename_i e
      obtain rfl := Option.some.inj hc
      rw [get, if_neg nt, if_pos rfl]
      congr 1
      omega
    · rename_i e1
      split at hc
      · rename_i e2
        obtain rfl := Option.some.inj hc
        rw [get, if_pos rfl]
        congr 1
        omega
      · rename_i e2
        have q := B.inv k c hc
        rw [get, if_neg, if_neg]
        · exact q
        · intro e
          rw [← e, af] at q
          have := Option.some.inj q
          omega
        · intro e
          rw [← e, bf] at q
          have := Option.some.inj q
          omega
  · obtain ⟨z1, zb⟩ := erase_mem nd1 hb hz
    obtain ⟨z2, za⟩ := erase_mem B.nd ha z1
    obtain ⟨c0, c1, cf⟩ := B.fx z z2
    refine ⟨c0, c1, ?_⟩
    rw [get, if_neg (by omega), if_neg (by omega)]
    exact cf
def idI (m : Nat) : List Int := (List.range m).map fun i => ((i : Nat) : Int)
theorem idI_at {m k : Nat} {b : Int} (h : (idI m)[k]? = some b) : b = k ∧ k < m := by
  unfold idI at h
  rw [List.getElem?_map] at h
  have hk : k < m := by
    have q := (List.getElem?_eq_some_iff.mp (by rw [← List.getElem?_map] at h; exact h)).1
    simpa using q
  rw [List.getElem?_range hk] at h
  exact ⟨(Option.some.inj h).symm, hk⟩
theorem idI_get {m k : Nat} (h : k < m) : (idI m)[k]? = some (k : Int) := by
  unfold idI
  rw [List.getElem?_map, List.getElem?_range h]
  rfl
theorem BI.start (m : Nat) : BI m (idI m) (idI m) := by
  have mem : ∀ n ∈ idI m, 0 ≤ n ∧ n < (m : Nat) := fun n hn => by
    obtain ⟨k, hk⟩ := List.getElem?_of_mem hn
    obtain ⟨rfl, h⟩ := idI_at hk
    omega
  refine ⟨by simp [idI], mem, fun k b hb => ?_, ?_, fun z hz => ?_⟩
  · obtain ⟨rfl, h⟩ := idI_at hb
    exact idI_get (by omega)
  · unfold idI
    exact List.Pairwise.map _ (fun a b (h : a ≠ b) => by omega) List.nodup_range
  · obtain ⟨h1, h2⟩ := mem z hz
    refine ⟨h1, h2, ?_⟩
    rw [idI_get (by omega)]
    congr 1
    omega
theorem rgV_id {m : Int} (h : 0 ≤ m) : rgV 0 m = (idI m.toNat).map V.int := by
  unfold rgV idI
  rw [List.map_map, show m - 0 = m by omega]
  refine List.map_congr_left fun i _ => ?_
  show V.int (0 + (i : Int)) = V.int (i : Int)
  rw [Int.zero_add]
theorem seq_at {i : Int} {n : Nat} (h0 : 0 ≤ i) (h : i < (n : Nat)) : seqIndex? i n = some i.toNat := by
  have h1 : ixN n i = some i.toNat := by
    unfold ixN
    rw [if_pos h0, if_pos h]
  exact (ixN_seq h1).1
theorem ixN_at {i : Int} {n : Nat} (h0 : 0 ≤ i) (h : i < (n : Nat)) : ixN n i = some i.toNat := by
  unfold ixN
  rw [if_pos h0, if_pos h]
abbrev s_Lbacks : Stmt := top 42
theorem sc_Lbacks : FnScope ["_law_hand_here", "_law_many", "_law_backs_here", "_law_left", "_law_k", "_law_one", "_law_other"] ["_law_hand_here", "_law_many"] (defScope s_Lbacks) := ⟨rfl, rfl, rfl, by decide +kernel, rfl, by decide +kernel, by decide +kernel⟩
def spBacks : Sp := fun vs H Q _ => ∃ (h q : Addr) (m : Int), vs = [.ref h, .int m] ∧ 2 ≤ m ∧ m ≤ 4 ∧ Hand H h q ∧ ∀ (ns : List Int) (p : Addr) (H' : Hp), (ns.length : Nat) = m → GoodB ns → But h H H' → H p = none → H' p = some (.lst (ns.map V.int)) → Hand H' h q → Q (.ref p) H'
theorem Hand.h_ne {H : Hp} {h q p : Addr} (x : Hand H h q) (n : H p = none) : h ≠ p ∧ q ≠ p := by
  obtain ⟨cs, i, r, t, e1, e2, _⟩ := x
  exact ⟨ne_of_none e1 n, ne_of_none e2 n⟩
theorem But.put2 {h p : Addr} {H H' : Hp} {o : HO} (B : But h H H') (n : H p = none) : But h H (upd H' p o) := fun b u nb e => by
  rw [upd_ne (ne_of_none e n)]
  exact B b u nb e
section
variable {P : Program} {w : World} {K : PySem.W.Frag} {mg : Str → Option Value} {base : Heap}
theorem ok_Lbacks {f fD : Addr} {fd fdD : FuncData} (F : Fun K "_law_backs" "_law_backs" s_Lbacks f fd) (nli : mg "list" = none) (nl : mg "len" = none) (nr : mg "range" = none)
    (GD : Cal P w K mg base CX0 2 "_law_draw" fD fdD ["_law_hand_here", "_law_many"] spDraw) : FnOk P w K mg base CX0 3 f fd ["_law_hand_here", "_law_many"] spBacks := by
  refine F.ok sc_Lbacks (fun vs H Q E h => ?_) (fun cdv A outer s H vs Q E hr h => ?_)
  · obtain ⟨h, q, m, rfl, _⟩ := h
    rfl
  · obtain ⟨h, q, m, rfl, m2, m4, hh, k⟩ := h
    refine ⟨_, (pss_cons 
  (ps_set (i := 2) sc_Lbacks.nd rfl (Or.inl rfl) (pe_listRg rfl (by rfl) nli (prg_1 (by rfl) nr (pv 1)))) (pss_cons 
  (ps_set (i := 3) sc_Lbacks.nd rfl (Or.inl rfl) (pe_listRg rfl (by rfl) nli (prg_1 (by rfl) nr (pv 1)))) (pss_cons 
  (ps_for PassesOwn.never rfl (pi_range1 (by rfl) nr (pa_cons (pe_op op_fdiv (pv 1) pe_int) pa_nil)) (pg_name (i := 4) sc_Lbacks.nd rfl (Or.inl rfl)) (pss_one 
    (ps_if (pt_cmpR op_eq (pcal GD hr pass0 (pa_cons (pv 0) (pa_cons pe_int pa_nil))) pe_int (nomark _)) (pss_cons 
      (ps_set (i := 5) sc_Lbacks.nd rfl (Or.inl rfl) (pe_bm PySem.F.plainAttrs_list PySem.F.slot_list_pop PySem.F.type_list_pop mt_popAt (pv 3) (pa_cons (pcal GD hr pass0 (pa_cons (pv 0) (pa_cons (pe_callB call_len_seq (by rfl) nl PySem.boot_len (pa_cons (pv 3) pa_nil)) pa_nil))) pa_nil))) (pss_cons 
      (ps_set (i := 6) sc_Lbacks.nd rfl (Or.inl rfl) (pe_bm PySem.F.plainAttrs_list PySem.F.slot_list_pop PySem.F.type_list_pop mt_popAt (pv 3) (pa_cons (pcal GD hr pass0 (pa_cons (pv 0) (pa_cons (pe_callB call_len_seq (by rfl) nl PySem.boot_len (pa_cons (pv 3) pa_nil)) pa_nil))) pa_nil))) (pss_cons 
      (ps_asg (pv 6) (pg_sub (pv 2) (pv 5) set_list)) (pss_one 
      (ps_asg (pv 5) (pg_sub (pv 2) (pv 6) set_list)))))) pss_nil))) (pss_one 
  (ps_ret (pv 2)))))), ?_⟩
    have rg : RgOk 0 m := RgOk.of_le (by omega) (by omega) (by omega) (by omega)
    refine ⟨_, rfl, m, rfl, rg, fun p hp => ?_⟩
    refine ⟨_, rfl, m, rfl, rg, fun l hl => ?_⟩
    rw [rgV_id (by omega)]
    rw [rgV_id (by omega)] at hl
    have npl : p ≠ l := ne_of_none upd_same hl
    have hl0 : H l = none := by
      rw [upd_ne npl.symm] at hl
      exact hl
    obtain ⟨nhp, nqp⟩ := hh.h_ne hp
    obtain ⟨nhl, nql⟩ := hh.h_ne hl0
    refine ⟨_, rfl, _, _, rfl, rfl, ⟨by decide, by decide⟩, _, rfl, by omega, by omega, for_range (lo := 0) (n := (m / 2).toNat) (fun i σ H' => ∃ (ns ls : List Int) (v4 v5 v6 : Option V), σ = [some (.ref h), some (.int m), some (.ref p), some (.ref l), v4, v5, v6] ∧
        BI m.toNat ns ls ∧ m.toNat ≤ ls.length + 2 * i ∧ ls.length ≤ m.toNat ∧ But h H H' ∧ Hand H' h q ∧ H' p = some (.lst (ns.map V.int)) ∧ H' l = some (.lst (ls.map V.int)))
      ⟨idI m.toNat, idI m.toNat, none, none, none, rfl, BI.start _, by simp [idI], by simp [idI], ((But.refl h H).put2 hp).put2 hl0, (hh.put nhp nqp).put nhl nql, by rw [upd_ne npl, upd_same], upd_same⟩ ?_ ?_⟩
    · rintro i σ H1 hi ⟨ns, ls, v4, v5, v6, rfl, B, hc, lsm, b1, h1, ep, el⟩
      have hls : 2 ≤ ls.length := by omega
      refine ⟨_, rfl, h, q, 3, rfl, by decide, by decide, h1, fun v H2 v0 v3 b2 h2 => ⟨rfl, _, rfl, ?_⟩⟩
      refine ifD (fun c => ?_) (fun c => ⟨ns, ls, _, _, _, rfl, B, by omega, lsm, b1.trans b2, h2, b2 _ _ nhp.symm ep, b2 _ _ nhl.symm el⟩)
      have ep2 := b2 _ _ nhp.symm ep
      have el2 := b2 _ _ nhl.symm el
      have lml : (ls.map V.int).length = ls.length := List.length_map _
      refine ⟨_, rfl, .inl ⟨rfl, _, SqL.of el2⟩, _, rfl, _, rfl, l, _, rfl, .inl (SqL.of el2), h, q, _, rfl, by omega, by omega, h2, fun a H3 a0 a1 b3 h3 => ?_⟩
      have ep3 := b3 _ _ nhp.symm ep2
      have el3 := b3 _ _ nhl.symm el2
      rw [lml] at a1
      have hla : a.toNat < ls.length := by omega
      have hA : ls[a.toNat]? = some ls[a.toNat] := List.getElem?_eq_getElem hla
      generalize ls[a.toNat] = x at hA
      refine ⟨l, _, a, a.toNat, .int x, rfl, rfl, el3, by omega, by omega, seq_at a0 (by omega), ints_at hA, ?_⟩
      rw [map_erase]
      have e1 : (upd H3 l (.lst ((ls.eraseIdx a.toNat).map V.int))) l = some (.lst ((ls.eraseIdx a.toNat).map V.int)) := upd_same
      have ep4 : (upd H3 l (.lst ((ls.eraseIdx a.toNat).map V.int))) p = some (.lst (ns.map V.int)) := by rw [upd_ne npl]; exact ep3
      have h4 : Hand (upd H3 l (.lst ((ls.eraseIdx a.toNat).map V.int))) h q := h3.put nhl nql
      have b4 : But h H (upd H3 l (.lst ((ls.eraseIdx a.toNat).map V.int))) := ((b1.trans b2).trans b3).put2 hl0
      have le : (ls.eraseIdx a.toNat).length = ls.length - 1 := by rw [List.length_eraseIdx, if_pos hla]
      have lml2 : ((ls.eraseIdx a.toNat).map V.int).length = ls.length - 1 := by rw [List.length_map, le]
      generalize upd H3 l (.lst ((ls.eraseIdx a.toNat).map V.int)) = H4 at e1 ep4 h4 b4
      refine ⟨_, rfl, .inl ⟨rfl, _, SqL.of e1⟩, _, rfl, _, rfl, l, _, rfl, .inl (SqL.of e1), h, q, _, rfl, by omega, by omega, h4, fun b H5 b0' b1' b5 h5 => ?_⟩
      have ep5 := b5 _ _ nhp.symm ep4
      have el5 := b5 _ _ nhl.symm e1
      rw [lml2] at b1'
      have hlb : b.toNat < (ls.eraseIdx a.toNat).length := by omega
      have hB : (ls.eraseIdx a.toNat)[b.toNat]? = some (ls.eraseIdx a.toNat)[b.toNat] := List.getElem?_eq_getElem hlb
      generalize (ls.eraseIdx a.toNat)[b.toNat] = y at hB
      refine ⟨l, _, b, b.toNat, .int y, rfl, rfl, el5, by omega, by omega, seq_at b0' (by omega), ints_at hB, ?_⟩
      rw [map_erase]
      have B2 := B.step hA hB
      obtain ⟨x0, x1, _⟩ := B.fx x (List.mem_of_getElem? hA)
      obtain ⟨y0, y1, _⟩ := B.fx y (erase_mem B.nd hA (List.mem_of_getElem? hB)).1
      have lns := B.len
      have ep6 : (upd H5 l (.lst (((ls.eraseIdx a.toNat).eraseIdx b.toNat).map V.int))) p = some (.lst (ns.map V.int)) := by rw [upd_ne npl]; exact ep5
      refine ⟨_, rfl, _, rfl, _, rfl, p, _, _, x.toNat, rfl, rfl, ep6, ixN_at x0 (by rw [List.length_map]; omega), ?_⟩
      refine ⟨_, rfl, _, rfl, _, rfl, p, _, _, y.toNat, rfl, rfl, upd_same, ixN_at y0 (by rw [List.length_set, List.length_map]; omega), ?_⟩
      refine ⟨_, _, _, _, _, rfl, B2, ?_, ?_, ?_, ?_, ?_, ?_⟩
      · rw [List.length_eraseIdx, if_pos hlb, le]
        omega
      · rw [List.length_eraseIdx, if_pos hlb, le]
        omega
      · exact (((b4.trans b5).put2 hl0).put2 hp).put2 hp
      · exact (((h5.put nhl nql).put nhp nqp).put nhp nqp)
      · rw [upd_same, List.map_set, List.map_set]
      · rw [upd_ne npl.symm, upd_ne npl.symm, upd_same]
    · rintro σ H1 ⟨ns, ls, v4, v5, v6, rfl, B, hc, lsm, b1, h1, ep, el⟩
      have lns := B.len
      refine ⟨_, rfl, k ns p H1 (by omega) ⟨by omega, by omega, fun n hn => ?_, B.inv⟩ b1 hp ep h1⟩
      have := B.rng n hn
      omega
end
end J

set_option Elab.async false
set_option linter.all false
set_option maxRecDepth 100000
set_option maxHeartbeats 2000000
/-! enumerate over a tuple -/
namespace PySem
open Sem (wp)
open AutoSeq1 (wpAny_loadPart')
abbrev enumO (h : Heap) : Obj := { cls := .type "enumerate", data := .fields #[.none, .bool false, .ref h.objs.size, rawInt 0, .none, .none] }
theorem jMeetsEnum {v : Value} {o : Obj} {H0 : Heap → Prop} (B : Begins v o H0) :
    Meets (Builtin.«enumerate.__new__» ⟨[.type "enumerate", v], []⟩) (fun _ R s => H0 s.heap ∧ R (.ok (.ret (.ref (s.heap.push o).objs.size))) { s with heap := (s.heap.push o).push (enumO s.heap) }) := .of_wp fun prog w A R s h => by
  obtain ⟨hp, g, d, tk, os⟩ := s
  obtain ⟨h1, h⟩ := h
  have hsub := sub_enumerate
  have q1 : ∀ {A' : Around} {E : Value → Shared → Prop} {Q : Value → Shared → Prop}, Q (.ref hp.objs.size) ⟨hp.push o, g, d, tk, os⟩ → wpAny (model prog w) A' (pyIter v) Q E ⟨hp, g, d, tk, os⟩ := fun q => B.iter prog w _ _ ⟨hp, g, d, tk, os⟩ _ h1 q
  wp_walk
  refine wpAny_stack_any fun st => wpAny_pure ?_
  split
  · rename_i c _ _ _ _ _
    cases (c == Value.type "enumerate")
    · wp_walk using q1
      exact ⟨_, rfl, h⟩
    · wp_walk using q1
      exact ⟨_, rfl, h⟩
  · wp_walk using q1
    exact ⟨_, rfl, h⟩
theorem jEnumTup {prog : Program} {w : World} {A : Around} {E : Value → Shared → Prop} {s : Shared} {t : Addr} {items : Array Value} {Q : Value → Shared → Prop} (hT : s.heap.IsTuple t items)
    (h : ∀ h', IsEnum h' (s.heap.objs.size + 1) s.heap.objs.size 0 .none → h'.IsTupleIter s.heap.objs.size t 0 → (∀ b o, s.heap.get? b = some o → h'.get? b = some o) → Q (.ref (s.heap.objs.size + 1)) { s with heap := h' }) :
    wpAny (model prog w) A (call (.type "enumerate") [.ref t]) Q E s := by
  refine callType_new F.called_enumerate (by decide) (F.typeCall_enumerate_1 _) (F.newCall_enumerate_1 _) (fun obj => F.args_object_init_2 obj _) F.entry_enumerate_new (jMeetsEnum (begins_tuple t items)) ⟨hT, ?_⟩
  generalize eo : ({ cls := .type "tuple_iterator", data := .fields #[.ref t, .int 0 0] } : Obj) = o
  have hz : (s.heap.push o).objs.size = s.heap.objs.size + 1 := Heap.size_push ..
  show _ ∧ _
  rw [hz]
  have he : IsEnum ((s.heap.push o).push (enumO s.heap)) (s.heap.objs.size + 1) s.heap.objs.size 0 .none := by
    have q := Heap.get?_push_size (s.heap.push o) (o := enumO s.heap) rfl
    rw [hz] at q
    exact q
  refine ⟨⟨_, he, rfl⟩, h _ he ⟨o, Heap.get?_push_of_some _ (Heap.get?_push_size _ (by subst eo; rfl)), by subst eo; rfl, by subst eo; rfl⟩ fun b ob x => Heap.get?_push_of_some _ (Heap.get?_push_of_some _ x)⟩
end PySem
namespace J
open PySem PySem.Spec PyProof.Rows L2
/-- the tuple at a, its items in new pairs with their places -/
def Itet (K : PySem.W.Frag) (a : Addr) : It :=
  ⟨fun i H => ∃ (xs : List V) (x : V), SqT K H a xs ∧ xs[i]? = some x, fun i H v H' => ∃ T x, v = .ref T ∧ H T = none ∧ H' = upd H T (.tup [.int (i : Nat), x]) ∧ ∀ xs, SqT K H a xs → xs[i]? = some x, fun i H => ∃ xs : List V, SqT K H a xs ∧ xs.length = i⟩
theorem tup_apart {h : Heap} {a e it : Addr} {items : Array Value} {old : Value} {i : Nat} {c : Int} (ht : h.IsTuple a items) (he : IsEnum h e it c old) (hi : h.IsTupleIter it a i) : a ≠ it ∧ a ≠ e := by
  obtain ⟨o, ho, hc, _⟩ := ht
  obtain ⟨o2, ho2, hc2, _⟩ := hi
  refine ⟨fun q => ?_, fun q => ?_⟩
  · rw [q, ho2] at ho
    have := Option.some.inj ho
    subst this
    rw [hc2] at hc
    exact absurd hc (by decide)
  · have he' : h.get? e = _ := he
    rw [q, he'] at ho
    have := Option.some.inj ho
    subst this
    have hc2 : Value.type "enumerate" = Value.type "tuple" := hc
    injection hc2 with z
    exact absurd z (by decide)
theorem turn_enumT {P : Program} {w : World} {K : PySem.W.Frag} {elts : List Expr} {kk : Nat} {tpos : Pos} (a e it : Addr) :
    Turn P w K (.Tuple elts kk tpos) (Itet K a) [e, it] e (fun i h => (∃ old, IsEnum h e it ((i : Nat) : Int) old) ∧ h.IsTupleIter it a i ∧ e ≠ it) where
  mem := by simp
  obj := by
    rintro i h ⟨⟨old, he⟩, ⟨o, ho, hc, hd⟩, _⟩ b hb
    have e' : b = e ∨ b = it := by simpa using hb
    rcases e' with rfl | rfl
    · exact ⟨_, he, fun v q => nomatch q⟩
    · exact ⟨o, ho, fun v q => by rw [hd] at q; cases q⟩
  keep := by
    rintro i h h' ⟨⟨old, he⟩, ⟨o, ho, hr⟩, hne⟩ k
    exact ⟨⟨old, k e (by simp) _ he⟩, ⟨o, k it (by simp) _ ho, hr⟩, hne⟩
  item := by
    intro X hP hw hK hc i pins s σ H E I hf st hg
    subst hP hw hK
    obtain ⟨⟨old, he⟩, hit, hne⟩ := st
    obtain ⟨xs, x, hq, hx⟩ := hg
    obtain ⟨its, rv, p, hz⟩ := I.tuple hq
    obtain ⟨u, hu, ru⟩ := rv.get hx
    have ht : s.heap.IsTuple a its.toArray := p
    obtain ⟨n1, n2⟩ := tup_apart ht he hit
    have hel : e < s.heap.objs.size := Heap.lt_size he
    have hil : it < s.heap.objs.size := by
      obtain ⟨_, q, _⟩ := hit
      exact Heap.lt_size q
    have hlt : i < its.toArray.size := by
      have q := (List.getElem?_eq_some_iff.mp hu).1
      simpa using q
    have D := Draws.tuple (prog := X.prog) (w := X.w) (A := X.A.in1) (I.ok.hd hc) it a n1 its.toArray
    have nin : e ∉ [it, a] := by
      simp only [List.mem_cons, List.not_mem_nil, or_false, not_or]
      exact ⟨hne, fun q => n2 q.symm⟩
    refine wpAny_pyNext_enum_itemD D he ⟨hit, ht⟩ hlt hne nin ?_
    intro u2 h' tk hP ho hst hT hsz hk
    obtain rfl : u = u2 := by
      have q : its.toArray[i]? = some u2 := hP
      have q2 : its.toArray[i]? = some u := by simpa using hu
      rw [q2] at q
      exact Option.some.inj q
    refine ⟨_, rfl, wpAny_letOwnedTupleGo_enum (s := { s with heap := h', toks := tk + 1 }) ho ?_⟩
    intro h2 he2 sb
    have hT2 : h2.get? s.heap.objs.size = some { cls := .type "tuple", data := .seq #[.int i tk, u] } := (sb.2 _ (Nat.ne_of_gt hel)).trans hT
    have new : ObjOk X.prog X.w (upd H s.heap.objs.size (.tup [.int (i : Nat), x])) h2 s.heap.objs.size (.tup [.int (i : Nat), x]) :=
      ⟨by show 2 ≤ sizeLine; decide, [.int i tk, u], .cons ⟨_, rfl⟩ (.cons ru .nil), ⟨_, hT2, rfl, _, rfl⟩⟩
    have kept : ∀ (b : Addr) (ob : Obj), b ∉ [e, it] → s.heap.get? b = some ob → h2.get? b = some ob := fun b ob hb q => by
      have b1 : b ≠ e := fun z => hb (by simp [z])
      have b2 : b ≠ it := fun z => hb (by simp [z])
      exact (sb.2 b b1).trans (hk b ob b1 b2 q)
    have I1 : Inv X pins σ (upd H s.heap.objs.size (.tup [.int (i : Nat), x])) { s with heap := h2, toks := tk + 1 } := I.turnedNew (ch := [e, it]) kept hf (Nat.le_refl _) new
    refine ⟨.ref s.heap.objs.size, _, I1, rfl, ⟨_, x, rfl, I.hok.fresh (Nat.le_refl _), rfl, fun ys hy => by rw [I.tuple_inj hy hq]; exact hx⟩, ⟨⟨u, ?_⟩, hst.1.at fun o q => (sb.2 it (Ne.symm hne)).trans q, hne⟩, fun b hb => ?_⟩
    · have e1 : ((i + 1 : Nat) : Int) = (i : Int) + 1 := by omega
      rw [e1]
      exact he2
    · have hb' : b < s.heap.objs.size := by
        have e' : b = e ∨ b = it := by simpa using hb
        rcases e' with z | z
        · rw [z]
          exact hel
        · rw [z]
          exact hil
      rw [upd_ne (Nat.ne_of_lt hb')]
      exact (hf b hb).1
  done := by
    intro X hP hw hK hc i pins s σ H E I hf st hg
    subst hP hw hK
    obtain ⟨⟨old, he⟩, hit, hne⟩ := st
    obtain ⟨xs, hq, hx⟩ := hg
    obtain ⟨its, rv, p, hz⟩ := I.tuple hq
    have ht : s.heap.IsTuple a its.toArray := p
    obtain ⟨n1, n2⟩ := tup_apart ht he hit
    obtain ⟨f0, f1, f2, f3, f4, f5⟩ := hf it (by simp)
    have D := Draws.tuple (prog := X.prog) (w := X.w) (A := X.A.in1) (I.ok.hd hc) it a n1 its.toArray
    have hn : its.toArray.size = i := by
      have hl := rv.length
      simp
      omega
    refine wpAny_pyNext_enum_endD D he ⟨by rw [hn]; exact hit, ht⟩ ?_
    intro h' eb
    exact ⟨rfl, I.turned (t' := s.toks) (fun b o hb q => eb b o hb q) f0 f1 f3 f4 f5⟩
  self := fun A i s Q E ⟨⟨_, he⟩, _⟩ h => wpAny_pyIter_enum he h
def iEnumT (K : PySem.W.Frag) (ta : TA) : TI := fun σ H R => ta σ H fun vs H1 => ∃ a xs, vs = [.ref a] ∧ SqT K H1 a xs ∧ R (Itet K a) H1
theorem pi_enumT {X : Cx} {e : Expr} {ta : TA} {p pos tpos : Pos} {elts : List Expr} {kk : Nat} (hg : Gl X "enumerate") (hm : X.mg "enumerate" = none) (ha : PA X [e] ta)
    (hs : starEach [e] X.env = [(false, eval e X.env)] := by rfl) : PI X (.Tuple elts kk tpos) (.Call (.Name "enumerate" p) [e] [] pos) (iEnumT X.K ta) := by
  constructor
  intro pins s σ H R I h
  refine Call_ (ld_blt I hg hm boot_enumerate (PyProof.Rows.callWith_type1 (thn (ha.run pos pins s σ H _ I h) ?_) hs rfl))
  rintro us s1 ⟨vs, H1, I1, r1, a, xs, ex, hq, q⟩
  subst ex
  cases r1 with
  | cons r rr =>
    cases rr
    cases r
    obtain ⟨its, rv, p', hz⟩ := I1.tuple hq
    refine jEnumTup (items := its.toArray) p' ?_
    intro h' he hit hk
    refine wpAny_pyIter_enum he ?_
    have I2 : Inv X pins σ H1 { s1 with heap := h' } := I1.kept (t' := s1.toks) hk
    refine ⟨s1.heap.objs.size + 1, [s1.heap.objs.size + 1, s1.heap.objs.size], _, _, H1, rfl, I2, turn_enumT a (s1.heap.objs.size + 1) s1.heap.objs.size, ⟨⟨.none, he⟩, hit, Nat.succ_ne_self _⟩, ?_, q⟩
    intro b hb
    have e' : b = s1.heap.objs.size + 1 ∨ b = s1.heap.objs.size := by simpa using hb
    have hle : s1.heap.objs.size ≤ b := by
      rcases e' with z | z
      · rw [z]
        exact Nat.le_succ _
      · rw [z]
        exact Nat.le_refl _
    exact I1.fpOk hle (I1.hok.fresh hle)
theorem for_enumT {K : PySem.W.Frag} {a : Addr} {xs : List V} {g : TG} {tb : TS} {D : Ends} {σ : L2.St} {H : Hp} (Pv : Nat → L2.St → Hp → Prop) (h0 : Pv 0 σ H) (hl : ∀ i σ H, i ≤ xs.length → Pv i σ H → SqT K H a xs)
    (hs : ∀ i x σ H T, xs[i]? = some x → Pv i σ H → H T = none → g (.ref T) σ (upd H T (.tup [.int (i : Nat), x])) fun σ2 H2 => tb { D with nx := Pv (i + 1), ct := Pv (i + 1), bk := D.nx } σ2 H2) (hd : ∀ σ H, Pv xs.length σ H → D.nx σ H) :
    ∃ W : Nat → Nat → L2.St → Hp → Prop, (∃ m, W 0 m σ H) ∧ ∀ i m σ H, W i m σ H →
      ((Itet K a).stop i H ∧ D.nx σ H) ∨ ((Itet K a).go i H ∧ ∃ N : L2.St → Hp → Prop, (∀ σ' H', N σ' H' → ∃ m', m' < m ∧ W (i + 1) m' σ' H') ∧ ∀ x H', (Itet K a).yld i H x H' → g x σ H' fun σ2 H2 => tb { D with nx := N, ct := N, bk := D.nx } σ2 H2) := by
  refine ⟨fun i m s h => m + i = xs.length ∧ Pv i s h, ⟨xs.length, rfl, h0⟩, ?_⟩
  rintro i m σ H ⟨em, p⟩
  have hi : i ≤ xs.length := by omega
  have q := hl i σ H hi p
  rcases Nat.lt_or_ge i xs.length with hlt | hge
  · refine .inr ⟨⟨xs, xs[i], q, by simp [hlt]⟩, Pv (i + 1), fun σ' H' p' => ⟨m - 1, by omega, by omega, p'⟩, ?_⟩
    rintro x H' ⟨T, y, rfl, hT, rfl, hy⟩
    exact hs i y σ H T (hy xs q) p hT
  · have e : i = xs.length := by omega
    subst e
    exact .inl ⟨⟨xs, q, rfl⟩, hd σ H p⟩
end J

set_option Elab.async false
set_option linter.all false
set_option maxRecDepth 100000
set_option maxHeartbeats 4000000
namespace J
open PySem PySem.Spec PyProof.Rows L2
/-! ### list comprehensions of any number of clauses, none with tests -/
abbrev lcE (elt : Expr) (gens : List Comprehension) (scope : Scope) (pos : Pos) : Expr := .ListComp elt gens scope pos
section
variable {prog : Program} {w : World} {A : Around} {R : Result → Shared → Prop} {s : Shared} {elt : Expr} {gens : List Comprehension} {scope : Scope} {pos : Pos} {it acc : Value} {env : Env} {d : Nat} {t i : Expr}
/-- the raising ways of a turn -/
abbrev Nw (prog : Program) (w : World) (A : Around) (env : Env) (R : Result → Shared → Prop) : Value → Shared → Prop := notedBy (model prog w) A env fun e s' => R (.error e) s'
/-- what a turn does behind its store: the next clause, or the item -/
def Rest (prog : Program) (w : World) (A : Around) (elt : Expr) (gens : List Comprehension) (scope : Scope) (pos : Pos) (d : Nat) (acc : Value) (env : Env) (N : Value → Shared → Prop) (B : Shared → Prop) (s : Shared) : Prop :=
  match gens[d + 1]? with
  | some g => g.is_async = 0 ∧ (∀ x, foldedSetIterable g.iter env x = pure x) ∧ wpAny (model prog w) A (eval g.iter env) (fun x s1 => wpAny (model prog w) A (pyIter x) (fun it1 s2 =>
      codeAny (model prog w) A (.compStart (lcE elt gens scope pos) (d + 1) it1 acc env) (fun r s' => match r with
        | .ok _ => B s'
        | .error _ => False) s2) N s1) N s
  | none => wpAny (model prog w) A (eval elt env) (fun x s1 => wpAny (model prog w) A (call (.builtin "list.append") [acc, x]) (fun _ s2 => B s2) N s1) N s
theorem loop_at (hg : gens[d]? = some ⟨t, i, [], 0⟩) (I : Nat → Shared → Prop)
    (turn : ∀ n s, I n s → wpAny (model prog w) A (pyNext it) (fun r s₁ => match r with
      | none => R (.ok .next) s₁
      | some v => wpAny (model prog w) A (letOwnedTupleGo t it v) (fun _ s₂ => wpAny (model prog w) A (assign t env v) (fun _ s₃ => Rest prog w A elt gens scope pos d acc env (Nw prog w A env R) (fun s' => ∃ m, m < n ∧ I m s') s₃) (Nw prog w A env R) s₂) (Nw prog w A env R) s₁) (Nw prog w A env R) s)
    (n : Nat) (h : I n s) : codeAny (model prog w) A (.compLoop (lcE elt gens scope pos) d it acc env) R s := by
  refine codeAny_loop rfl I (fun n s hI => ?_) n h
  show wpAny _ A ((compTurn (lcE elt gens scope pos) d it acc env).onRaise (fun x => do noteFrame x env; theTreesLotGoes x)) _ _ s
  refine wpAny_noted ?_
  unfold compTurn lcE
  dsimp only
  rw [hg]
  dsimp only
  refine wpAny_bind (wpAny_standAt (wpAny_bind ?_))
  show wpAny _ A (pyNext it) _ _ _
  refine wpAny_mono (turn n s hI) (fun r s₁ h₁ => ?_) fun _ _ h' => h'
  cases r with
  | none => exact wpAny_pure h₁
  | some v =>
    refine wpAny_bind (wpAny_mono h₁ (fun _ s₂ h₂ => wpAny_bind (wpAny_mono h₂ (fun _ s₃ h₃ => ?_) fun _ _ h' => h')) fun _ _ h' => h')
    refine wpAny_bind ?_
    rw [List.forIn_nil]
    refine wpAny_pure ?_
    unfold Rest at h₃
    rw [if_pos rfl]
    split at h₃
    · rename_i g' eg
      rw [eg]
      obtain ⟨ha, hs, h₃⟩ := h₃
      dsimp only
      refine wpAny_bind (wpAny_mono h₃ (fun x s₄ h₄ => ?_) fun _ _ h' => h')
      refine wpAny_bind (wpAny_standAt ?_)
      have a0 : (g'.is_async != 0) = false := by rw [ha]; rfl
      simp only [a0, Bool.false_eq_true, if_false]
      refine wpAny_bind (wpAny_of_eq (hs x) (wpAny_bind (wpAny_holding (wpAny_mono h₄ (fun it1 s₅ h₅ => ?_) fun _ _ h' => h'))))
      refine wpAny_bind (wpAny_runOwn ?_)
      rw [Around.mark_none]
      refine codeAny_mono h₅ fun r s' hr => ?_
      cases r with
      | ok f =>
        first
          | exact wpAny_pure ⟨rfl, hr⟩
          | exact wpAny_bind (wpAny_pure (wpAny_pure ⟨rfl, hr⟩))
      | error e => exact hr.elim
    · rename_i eg
      rw [eg]
      exact wpAny_bind (wpAny_bind (wpAny_mono h₃ (fun x s₄ h₄ => wpAny_bind (wpAny_mono h₄ (fun _ s₅ h₅ => wpAny_pure (wpAny_pure ⟨rfl, h₅⟩)) fun _ _ h' => h')) fun _ _ h' => h'))
theorem start_at (hg : gens[d]? = some ⟨t, i, [], 0⟩) (h0 : codeAny (model prog w) A (.compLoop (lcE elt gens scope pos) d it acc env) R s)
    (h : wpAny (model prog w) A (pyIter it) (fun it' s' => codeAny (model prog w) A (.compLoop (lcE elt gens scope pos) d it' acc env) R s') (Nw prog w A env R) s) :
    codeAny (model prog w) A (.compStart (lcE elt gens scope pos) d it acc env) R s := by
  refine codeAny_of_tree ?_
  have e1 : (clausesOf (lcE elt gens scope pos))[d]? = some ⟨t, i, [], 0⟩ := hg
  show wpAny _ _ ((compStart (lcE elt gens scope pos) d it acc env).onRaise (fun x => do noteFrame x env; standAt theWindowsPlace)) _ _ s
  refine wpAny_notedAt ?_
  unfold compStart
  rw [e1]
  show wpAny _ _ (ask >>= _) _ _ s
  refine wpAny_bind (wpAny_askSetting (wpAny_ite ?_))
  split
  · first
      | exact wpAny_bind (wpAny_pure (wpAny_pure (And.intro rfl h0)))
      | exact wpAny_pure (And.intro rfl h0)
  · have fin := wpAny_mono h (fun it' s' h' => (wpAny_pure (And.intro rfl h') : wpAny (model prog w) A (again (.compLoop (lcE elt gens scope pos) d it' acc env)) (fun f s' => match f with | .done f => R (.ok f) s' | .again c' => c'.quiet = true ∧ codeAny (model prog w) A c' R s') (Nw prog w A env R) s')) fun _ _ x => x
    first
      | exact wpAny_bind (wpAny_rule (wpAny_bind (wpAny_standAt (wpAny_bind fin))))
      | (refine wpAny_bind (wpAny_rule ?_); show wpAny _ _ (standAt i.pos >>= _) _ _ s; exact wpAny_bind (wpAny_standAt (wpAny_bind fin)))
end
/-! ### in the words of the hand layer -/
abbrev TB := L2.St → Hp → (Hp → Prop) → Prop
/-- the item that is put behind the list at D -/
def bElt (te : TE) (D : Addr) : TB := fun σ H Nx => te σ H fun y H7 => ∃ acc, H7 D = some (.lst acc) ∧ acc.length < sizeLine ∧ Nx (upd H7 D (.lst (acc ++ [y])))
/-- a clause, and what stands behind it -/
def bFor (wi : TI) (g : TG) (vs : List Nat) (body : TB) : TB := fun σ H Nx => wi σ H fun J H4 => ∃ W : Nat → Nat → Hp → Prop, (∃ m, W 0 m H4) ∧ ∀ j k H, W j k H →
  (J.stop j H ∧ Nx H) ∨ (J.go j H ∧ ∃ N1 : Hp → Prop, (∀ H', N1 H' → ∃ k', k' < k ∧ W (j + 1) k' H') ∧ ∀ x H', J.yld j H x H' → g x (wipe σ vs) H' fun σ3 H5 => wipe σ3 vs = wipe σ vs ∧ body σ3 H5 N1)
/-- the body does what its word says, from a block's context; fs: the slots that it may forget -/
def Real (Y : Cx) (elt : Expr) (gens : List Comprehension) (scope : Scope) (pos : Pos) (d : Nat) (D : Addr) (fs : List Nat) (body : TB) : Prop :=
  ∀ (pins : List (Addr × Obj)) (σ : L2.St) (H : Hp) (s : Shared) (Nx : Hp → Prop) (N : Value → Shared → Prop), Inv Y pins σ H s → body σ H Nx →
    Rest Y.prog Y.w Y.A elt gens scope pos d (.ref D) Y.env N (fun s' => ∃ (σ' : L2.St) (H' : Hp), Inv Y pins σ' H' s' ∧ σ'.length = σ.length ∧ (∀ (j : Nat) v, j ∉ fs → σ[j]? = some (some v) → σ'[j]? = some (some v)) ∧ Nx H') s
section
variable {Y : Cx} {elt t i : Expr} {gens : List Comprehension} {scope : Scope} {pos : Pos} {d : Nat} {D : Addr} {te : TE} {wi : TI} {g : TG} {vs fs : List Nat} {body : TB}
theorem quiet {α : Type} {m : Sem α} {M : Model} {A : Around} {P P' : α → Shared → Prop} {E E' : Value → Shared → Prop} {s : Shared} (hE : ∀ v s, ¬ E v s) (h : wpAny M A m P E s) (hP : ∀ a s, P a s → P' a s) : wpAny M A m P' E' s := wpAny_mono h hP fun v s z => (hE v s z).elim
theorem real_elt (hx : ∀ v s, ¬ Y.xe v s) (hn : gens[d + 1]? = none) (he : PE Y elt te) : Real Y elt gens scope pos d D [] (bElt te D) := by
  intro pins σ H s Nx N I h
  unfold Rest
  rw [hn]
  refine quiet hx (he.run pins s σ H _ I h) fun z s1 ⟨yv, H1, I1, r1, acc, hD, hz, nx⟩ => ?_
  exact app_ok (X := Y) I1 hD hz r1 fun s2 I2 => ⟨σ, _, I2, rfl, fun j v _ e => e, nx⟩
theorem real_for (hx : ∀ v s, ¬ Y.xe v s) (hc : Y.calm = true) (hn : gens[d + 1]? = some ⟨t, i, [], 0⟩) (hs : ∀ x, foldedSetIterable i Y.env x = pure x) (hi : PI Y t i wi) (hg : PG Y t g) (hf : ∀ j ∈ fs, j ∈ vs)
    (hb : Real Y elt gens scope pos (d + 1) D fs body) : Real Y elt gens scope pos d D vs (bFor wi g vs body) := by
  intro pins σ H s Nx N I h
  unfold Rest
  rw [hn]
  refine ⟨rfl, hs, quiet hx (hi.run pins s σ H _ I h) fun xv s1 e1 => quiet hx e1 fun itv s2 e2 => ?_⟩
  obtain ⟨a, fp, tn, J, H2, rfl, I2, T, st2, f2, W, ⟨m0, w0⟩, turn⟩ := e2
  have stay : ∀ {H' : Hp}, (∀ b ∈ fp, H' b = none) → ∀ b ∈ fp, FpOk Y pins H' b := fun hn b hb => ⟨hn b hb, (f2 b hb).2⟩
  have wl : (wipe σ vs).length = σ.length := wipe_length _ _
  have lp : codeAny (model Y.prog Y.w) Y.A (.compLoop (lcE elt gens scope pos) (d + 1) (.ref a) (.ref D) Y.env)
      (fun r s' => match r with
        | .ok _ => ∃ (σ' : L2.St) (H' : Hp), Inv Y pins σ' H' s' ∧ σ'.length = σ.length ∧ (∀ (j : Nat) v, j ∉ vs → σ[j]? = some (some v) → σ'[j]? = some (some v)) ∧ Nx H'
        | .error _ => False) s2 := by
    refine loop_at hn (fun k s' => ∃ j H', Inv Y pins (wipe σ vs) H' s' ∧ tn j s'.heap ∧ (∀ b ∈ fp, H' b = none) ∧ W j k H') ?_ m0 ⟨0, H2, I2.weak wl (fun j v e => (wipe_some e).1), st2, fun b hb => (f2 b hb).1, w0⟩
    rintro k s3 ⟨j, H3, I3, st3, n3, w3⟩
    rcases turn j k H3 w3 with ⟨stop, nx⟩ | ⟨go, N1, hN, step⟩
    · refine quiet (fun _ _ z => z) (T.done Y rfl rfl rfl hc j pins s3 (wipe σ vs) H3 (fun _ _ => False) I3 (stay n3) st3 stop) fun r s4 ⟨hr, I4⟩ => ?_
      subst hr
      exact ⟨wipe σ vs, H3, I4, wl, fun j v hj e => by rw [wipe_out hj]; exact e, nx⟩
    · refine quiet (fun _ _ z => z) (T.item Y rfl rfl rfl hc j pins s3 (wipe σ vs) H3 (fun _ _ => False) I3 (stay n3) st3 go) fun r s4 ⟨u, hr, e4⟩ => ?_
      subst hr
      refine quiet (fun _ _ z => z) e4 fun _ s5 ⟨x, H5, I5, r5, y5, st5, n5⟩ => ?_
      have J5 := I5.pinned (stay n5) (T.obj _ _ st5)
      refine quiet hx (hg.run _ s5 (wipe σ vs) H5 x u _ J5 r5 (step x H5 y5)) fun _ s6 ⟨σ6, H6, I6, hw, q6⟩ => ?_
      have l6 : σ6.length = σ.length := by
        have := congrArg List.length hw
        rw [wipe_length, wipe_length] at this
        exact this
      have back := hb _ σ6 H6 s6 N1 (Nw Y.prog Y.w Y.A Y.env fun r s' => match r with
        | .ok _ => ∃ (σ' : L2.St) (H' : Hp), Inv Y pins σ' H' s' ∧ σ'.length = σ.length ∧ (∀ (j : Nat) v, j ∉ vs → σ[j]? = some (some v) → σ'[j]? = some (some v)) ∧ Nx H'
        | .error _ => False) I6 q6
      have fin : ∀ s', (∃ (σ' : L2.St) (H' : Hp), Inv Y (pins ++ pinsAt fp s5.heap) σ' H' s' ∧ σ'.length = σ6.length ∧ (∀ (j : Nat) v, j ∉ fs → σ6[j]? = some (some v) → σ'[j]? = some (some v)) ∧ N1 H') →
          ∃ m, m < k ∧ ∃ j H', Inv Y pins (wipe σ vs) H' s' ∧ tn j s'.heap ∧ (∀ b ∈ fp, H' b = none) ∧ W j m H' := by
        rintro s' ⟨σ', H', I', hl, hk, nx⟩
        obtain ⟨m', hm, w'⟩ := hN H' nx
        have held : ∀ b ∈ fp, ∀ o, s5.heap.get? b = some o → s'.heap.get? b = some o ∧ H' b = none := fun b hb o e =>
          ⟨(I'.pin (b, o) (List.mem_append_right _ (List.mem_append_right _ (mem_pinsAt hb e)))).1, (I'.pin (b, o) (List.mem_append_right _ (List.mem_append_right _ (mem_pinsAt hb e)))).2.1⟩
        refine ⟨m', hm, j + 1, H', I'.unpinned.weak (by rw [wl, hl, l6]) (fun n v e => ?_), T.keep _ _ _ st5 fun b hb o e => (held b hb o e).1, fun b hb => ?_, w'⟩
        · rw [← hw] at e
          obtain ⟨p1, p2⟩ := wipe_some e
          exact hk n v (fun z => p2 (hf n z)) p1
        · obtain ⟨o, e, _⟩ := T.obj _ _ st5 b hb
          exact (held b hb o e).2
      -- what the body leaves is the next turn
      unfold Rest at back ⊢
      split at back
      · rename_i g' eg
        try rw [eg]
        obtain ⟨b1, b2, b3⟩ := back
        refine ⟨b1, b2, wpAny_mono b3 (fun _ _ z => wpAny_mono z (fun _ _ y => codeAny_mono y fun r s' q => ?_) fun _ _ z => z) fun _ _ z => z⟩
        cases r with
        | ok f => exact fin s' q
        | error e => exact q
      · rename_i eg
        try rw [eg]
        exact wpAny_mono back (fun _ _ z => wpAny_mono z (fun _ s' q => fin s' q) fun _ _ z => z) fun _ _ z => z
  exact start_at hn lp (T.self Y.A 0 _ _ _ st2 lp)
end
/-- a whole comprehension: its first clause walked, the new list at D, the rest by its body -/
def tLcN (wi : TI) (g : TG) (body : Addr → TB) (vs : List Nat) : TE := fun σ H Q => wi σ H fun J H1 => ∀ D, H1 D = none → ∃ W : Nat → Nat → Hp → Prop, (∃ m, W 0 m (upd H1 D (.lst []))) ∧ ∀ j k H, W j k H →
  (J.stop j H ∧ Q (.ref D) H) ∨ (J.go j H ∧ ∃ N1 : Hp → Prop, (∀ H', N1 H' → ∃ k', k' < k ∧ W (j + 1) k' H') ∧ ∀ x H', J.yld j H x H' → g x (wipe σ vs) H' fun σ3 H5 => wipe σ3 vs = wipe σ vs ∧ body D σ3 H5 N1)
section
variable {X : Cx}
theorem pe_lcN {elt tg iter : Expr} {rest : List Comprehension} {scope : Scope} {own : List (Str × Nat)} {pos : Pos} {wi : TI} {g : TG} {body : Addr → TB} {fs : List Nat} (hc : X.calm = true) (hN : X.N.Nodup) (hi : PI X tg iter wi) (ok : BlkOk X.N X.env.scope scope own)
    (hg : ∀ (s : Shared) (H : Hp) (C : Addr) (cl : List (Str × Addr)) (fp : List Addr), PG (X.blk s H scope (compEnvC scope cl C X.env) fp) tg g)
    (hb : ∀ (s : Shared) (H : Hp) (C : Addr) (cl : List (Str × Addr)) (fp : List Addr) (D : Addr), Real (X.blk s H scope (compEnvC scope cl C X.env) fp) elt (⟨tg, iter, [], 0⟩ :: rest) scope pos 0 D fs (body D)) (hf : ∀ j ∈ fs, j ∈ own.map (·.2))
    (hs : ∀ x, foldedSetIterable iter X.env x = pure x := by intro _; rfl) : PE X (.ListComp elt (⟨tg, iter, [], 0⟩ :: rest) scope pos) (tLcN wi g body (own.map (·.2))) := by
  refine ⟨fun pins s σ H Q I h => ?_⟩
  rw [eval_ListComp]
  have fr : ∀ y ∈ scope.names, y.2 = .free → ∃ c, X.env.cells.lookup y.1 = some c := fun y hy e => (ok.free y hy e).elim (fun k => I.ok.has _ (.inl k)) fun k => I.ok.has _ (.inr k)
  refine wpAny_comprehension_free (use := none) rfl hs (closure_ok fr) ok.kind (fun y hy e => by rw [ok.uniq y hy, e])
    (thn (hi.run pins s σ H _ I h) fun xv s1 e1 => thn e1 fun itv s2 e2 => ?_)
  obtain ⟨a, fp, tn, J, H2, rfl, I2, T, st2, f2, q⟩ := e2
  refine wpAny_newObj_type (newEnv_comp ?_) (by show 0 ≤ sizeLine; decide)
  generalize eD : s2.heap.objs.size = D
  have nD : H2 D = none := I2.hok.fresh (Nat.le_of_eq eD)
  obtain ⟨W, ⟨m0, w0⟩, turn⟩ := q D nD
  generalize es3 : ({ s2 with heap := s2.heap.push { cls := .type "list", data := .seq ([] : List Value).toArray } } : Shared) = s3
  have hp3 : s3.heap = s2.heap.push { cls := .type "list", data := .seq ([] : List Value).toArray } := by rw [← es3]
  have I3 : Inv X pins σ (upd H2 D (.lst [])) s3 := by
    subst es3
    exact I2.laid (t' := s2.toks) (fun b o e => Heap.get?_push_of_some _ e) (Nat.le_of_eq eD) ⟨Nat.zero_le _, [], 0, .nil, by rw [← eD]; exact Heap.get?_push_size _ rfl⟩
  have low : ∀ b ∈ fp, b < s2.heap.objs.size := fun b hb => let ⟨o, e, _⟩ := T.obj _ _ st2 b hb; Heap.lt_size e
  have f3 : ∀ b ∈ fp, FpOk X pins (upd H2 D (.lst [])) b ∧ b < s3.heap.objs.size := fun b hb =>
    ⟨⟨by rw [upd_ne (by rw [← eD]; exact Nat.ne_of_lt (low b hb))]; exact (f2 b hb).1, (f2 b hb).2⟩, by rw [hp3, Heap.size_push]; exact Nat.lt_succ_of_lt (low b hb)⟩
  have st3 : tn 0 s3.heap := T.keep _ _ _ st2 fun b _ o e => by rw [hp3]; exact Heap.get?_push_of_some _ e
  have I4 := block_start I3 ok hN f3
  have G := hg s3 (upd H2 D (.lst [])) s3.heap.objs.size (cellsFrom (s3.heap.objs.size + 1) scope.names (cloFrom X.env.cells scope.names [])) fp
  have B := hb s3 (upd H2 D (.lst [])) s3.heap.objs.size (cellsFrom (s3.heap.objs.size + 1) scope.names (cloFrom X.env.cells scope.names [])) fp D
  have no3 : ∀ b ∈ fp, (upd H2 D (.lst [])) b = none := fun b hb => (f3 b hb).1.1
  show codeAny _ _ (.compStart (lcE elt (⟨tg, iter, [], 0⟩ :: rest) scope pos) 0 (.ref a) (.ref D) (compEnvC scope (cellsFrom (s3.heap.objs.size + 1) scope.names (cloFrom X.env.cells scope.names [])) s3.heap.objs.size X.env)) (compPost (model X.prog X.w) X.A X.xe none (EP X pins σ Q) (.ref D) s3.heap.objs.size) { s3 with heap := pushCells (s3.heap.push { cls := .type "dict", data := .dict #[] }) scope.names }
  generalize ece : compEnvC scope (cellsFrom (s3.heap.objs.size + 1) scope.names (cloFrom X.env.cells scope.names [])) s3.heap.objs.size X.env = ce at I4 G B ⊢
  have cl : ce.locals = s3.heap.objs.size := by subst ece; rfl
  generalize eH3 : upd H2 D (.lst []) = H3 at I3 I4 G B w0 no3 f3
  generalize es4 : ({ s3 with heap := pushCells (s3.heap.push { cls := .type "dict", data := .dict #[] }) scope.names } : Shared) = s4 at I4 ⊢
  have st4 : tn 0 s4.heap := T.keep _ _ _ st3 fun b _ o e => by rw [← es4]; exact pushCells_keeps _ _ _ _ (Heap.get?_push_of_some _ e)
  have stay : ∀ {σ' : L2.St} {H' : Hp} {s' : Shared}, Inv (X.blk s3 H3 scope ce fp) [] σ' H' s' → (∀ b ∈ fp, H' b = none) → ∀ b ∈ fp, FpOk (X.blk s3 H3 scope ce fp) [] H' b := fun {σ' H' s'} I' hn b hb =>
    ⟨hn b hb, (I'.ok.exf b hb).1, I'.ok.exfs b hb, .inl hb, fun x c e => (I'.ok.exf b hb).2 x c e, fun p hp => absurd (show p ∈ ([] : List (Addr × Obj)) ++ [] from hp) (by simp)⟩
  have hx : ∀ v s, ¬ (X.blk s3 H3 scope ce fp).xe v s := fun _ _ z => z
  have lp : codeAny (model X.prog X.w) X.A (.compLoop (lcE elt (⟨tg, iter, [], 0⟩ :: rest) scope pos) 0 (.ref a) (.ref D) ce) (compPost (model X.prog X.w) X.A X.xe none (EP X pins σ Q) (.ref D) s3.heap.objs.size) s4 := by
    refine loop_at (t := tg) (i := iter) rfl (fun k s' => ∃ j H', Inv (X.blk s3 H3 scope ce fp) [] (wipe σ (own.map (·.2))) H' s' ∧ tn j s'.heap ∧ (∀ b ∈ fp, H' b = none) ∧ W j k H') ?_ m0 ⟨0, H3, I4, st4, no3, w0⟩
    rintro k s5 ⟨j, H5, I5, st5, n5, w5⟩
    rcases turn j k H5 w5 with ⟨stop, qq⟩ | ⟨go, N1, hN1, step⟩
    · refine quiet (fun _ _ z => z) (T.done (X.blk s3 H3 scope ce fp) rfl rfl rfl hc j [] s5 _ H5 (fun _ _ => False) I5 (stay I5 n5) st5 stop) fun r s6 ⟨hr, I6⟩ => ?_
      subst hr
      have I7 : Inv X pins σ H5 s6 := I3.call' (ch := fp) I6.os I6.base I6.hok I6.bare fun b hb => ⟨(f3 b hb).1.2.2.2.1, (f3 b hb).1.2.1, (f3 b hb).1.2.2.2.2.1, (f3 b hb).1.2.2.2.2.2⟩
      have free : H5 s3.heap.objs.size = none := by
        have z : H5 ce.locals = none := I6.free
        rwa [cl] at z
      obtain ⟨m, hm, _⟩ := I6.loc
      have hm : s6.heap.Ns ce.locals m := hm
      rw [cl] at hm
      obtain ⟨g0, g1, g2, g3, g4, g5⟩ := I3.fpOk (Nat.le_refl _) free
      exact ⟨m, hm, fun h' sb => ⟨.ref D, H5, I7.turned (t' := s6.toks) (fun b o hb e => (sb.2 b hb).trans e) g0 g1 g3 g4 g5, rfl, qq⟩⟩
    · refine quiet (fun _ _ z => z) (T.item (X.blk s3 H3 scope ce fp) rfl rfl rfl hc j [] s5 _ H5 (fun _ _ => False) I5 (stay I5 n5) st5 go) fun r s6 ⟨u, hr, e6⟩ => ?_
      subst hr
      refine quiet (fun _ _ z => z) e6 fun _ s7 ⟨x, H7, I7, r7, y7, st7, n7⟩ => ?_
      have J7 := I7.pinned (stay I7 n7) (T.obj _ _ st7)
      refine quiet hx (G.run _ s7 _ H7 x u _ J7 r7 (step x H7 y7)) fun _ s8 ⟨σ8, H8, I8, hw, q8⟩ => ?_
      have back := B _ σ8 H8 s8 N1 (Nw X.prog X.w X.A ce fun r s' => compPost (model X.prog X.w) X.A X.xe none (EP X pins σ Q) (.ref D) s3.heap.objs.size r s') I8 q8
      have l8 : σ8.length = σ.length := by
        have := congrArg List.length hw
        rw [wipe_length, wipe_length] at this
        exact this
      have fin : ∀ s', (∃ (σ' : L2.St) (H' : Hp), Inv (X.blk s3 H3 scope ce fp) ([] ++ pinsAt fp s7.heap) σ' H' s' ∧ σ'.length = σ8.length ∧ (∀ (n : Nat) v, n ∉ fs → σ8[n]? = some (some v) → σ'[n]? = some (some v)) ∧ N1 H') →
          ∃ m, m < k ∧ ∃ j H', Inv (X.blk s3 H3 scope ce fp) [] (wipe σ (own.map (·.2))) H' s' ∧ tn j s'.heap ∧ (∀ b ∈ fp, H' b = none) ∧ W j m H' := by
        rintro s' ⟨σ', H', I', hl, hk, nx⟩
        obtain ⟨m', hm, w'⟩ := hN1 H' nx
        have held : ∀ b ∈ fp, ∀ o, s7.heap.get? b = some o → s'.heap.get? b = some o ∧ H' b = none := fun b hb o e =>
          ⟨(I'.pin (b, o) (List.mem_append_right _ (List.mem_append_right _ (mem_pinsAt hb e)))).1, (I'.pin (b, o) (List.mem_append_right _ (List.mem_append_right _ (mem_pinsAt hb e)))).2.1⟩
        refine ⟨m', hm, j + 1, H', (I'.unpinned (pins := [])).weak (by rw [wipe_length, hl, l8]) (fun n v e => ?_), T.keep _ _ _ st7 fun b hb o e => (held b hb o e).1, fun b hb => ?_, w'⟩
        · rw [← hw] at e
          obtain ⟨p1, p2⟩ := wipe_some e
          exact hk n v (fun z => p2 (hf n z)) p1
        · obtain ⟨o, e, _⟩ := T.obj _ _ st7 b hb
          exact (held b hb o e).2
      unfold Rest at back ⊢
      split at back
      · rename_i g' eg
        try rw [eg]
        obtain ⟨b1, b2, b3⟩ := back
        refine ⟨b1, b2, wpAny_mono b3 (fun _ _ z => wpAny_mono z (fun _ _ y => codeAny_mono y fun r s' q => ?_) fun _ _ z => z) fun _ _ z => z⟩
        cases r with
        | ok f => exact fin s' q
        | error e => exact q
      · rename_i eg
        try rw [eg]
        exact wpAny_mono back (fun _ _ z => wpAny_mono z (fun _ s' q => fin s' q) fun _ _ z => z) fun _ _ z => z
  exact codeAny_compStart_list lp (T.self X.A 0 _ _ _ st4 lp)
end
end J

set_option Elab.async false
set_option linter.all false
set_option maxRecDepth 100000
set_option maxHeartbeats 4000000
namespace J
open PySem PySem.Spec PyProof.Rows L2
abbrev rTup (K : PySem.W.Frag) : List V → Hp → VK → Prop := fun xs H Q => ∃ p ys, xs = [.ref p] ∧ ((SqL K H p ys ∧ ∀ l, H l = none → Q (.ref l) (upd H l (.tup ys))) ∨ (SqT K H p ys ∧ Q (.ref p) H))
abbrev rLen (K : PySem.W.Frag) : List V → Hp → VK → Prop := fun xs H Q => ∃ p ys, xs = [.ref p] ∧ (SqL K H p ys ∨ SqT K H p ys) ∧ Q (.int (ys.length : Nat)) H
abbrev rLst (K : PySem.W.Frag) : List V → Hp → VK → Prop := fun xs H Q => ∃ p ys, xs = [.ref p] ∧ (SqL K H p ys ∨ SqT K H p ys) ∧ ∀ l, H l = none → Q (.ref l) (upd H l (.lst ys))
/-! ### a three -/
def threeB (ns : List Int) : Sh → Bool
  | .lst xs => decide (xs.length = 3) && xs.all (tieB ns)
  | .tup xs => decide (xs.length = 3) && xs.all (tieB ns)
  | _ => false
theorem threeB_len {ns : List Int} {xs : List V} (h : ¬ xs.length = 3) : threeB ns (.lst xs) = false := by
  show (decide (xs.length = 3) && xs.all (tieB ns)) = false
  rw [decide_eq_false h]
  rfl
theorem threeB_all {ns : List Int} {xs : List V} (h : xs.length = 3) : threeB ns (.lst xs) = (xs.map (tieB ns)).all id := by
  show (decide (xs.length = 3) && xs.all (tieB ns)) = _
  rw [decide_eq_true h, List.all_map, Bool.true_and]
  rfl
theorem V.int_nat {n : Nat} (h : V.int ((n : Nat) : Int) = V.int 3) : n = 3 := by
  injection h with h
  omega
theorem ifB {c A B : Prop} [Decidable c] (h1 : ¬ c → A) (h2 : c → B) : if (!decide c) = true then A else B := by
  by_cases h : c
  · rw [decide_eq_true h]
    exact iteF (h2 h)
  · rw [decide_eq_false h]
    exact iteT (h1 h)
abbrev s_is_three : Stmt := top 25
theorem sc_is_three : FnScope ["ties", "thing", "tie"] ["ties", "thing"] (defScope s_is_three) := ⟨rfl, rfl, rfl, by decide +kernel, rfl, by decide +kernel, by decide +kernel⟩
def spThree (C : Addr) : Sp := fun vs H Q _ => ∃ (x : Addr) (ns : List Int) (v : V) (s : Sh), vs = [.ref x, v] ∧ TiesAt C H x ns ∧ Is H v s ∧ Known H (items s) ∧ ∀ H', Same H H' → Q (.bl (threeB ns s)) H'
section
variable {P : Program} {w : World} {K : PySem.W.Frag} {mg : Str → Option Value} {base : Heap}
theorem ok_is_three {f C fS fH : Addr} {fd fdS fdH : FuncData} (F : Fun K "is_three" "is_three" s_is_three f fd) (T : TiC K C) (nl : mg "len" = none) (na : mg "all" = none) (GS : Cal P w K mg base CX0 1 "is_sequence" fS fdS ["thing"] spSeq)
    (GH : Mt P w K mg base CX0 2 C "has" fH fdH ["self", "thing"] (spHas C)) : FnOk P w K mg base CX0 3 f fd ["ties", "thing"] (spThree C) := by
  refine F.ok sc_is_three (fun vs H Q E h => ?_) (fun cdv A outer s H vs Q E hr h => ?_)
  · obtain ⟨x, ns, v, s, rfl, _⟩ := h
    rfl
  · obtain ⟨x, ns, v, s, rfl, hT, hv, kn, k⟩ := h
    cases s with
    | sc u =>
      refine ⟨_, (pss_cons 
  (ps_if (PW.pt (pw_or (pt_not (pt_val (pcal GS hr pass0 (pa_cons (pv 1) pa_nil)))) (pw_or1 (pt_cmpR op_ne (pe_callB call_len_seq (by rfl) nl PySem.boot_len (pa_cons (pv 1) pa_nil)) pe_int (nomark _))))) (pss_one 
    (ps_ret pe_bl)) pss_nil) (pss_one 
  (ps_ret (pe_callB (cr_all rfl) (by rfl) na (by decide +kernel) (pa_cons (pe_lc (own := [("tie", 2)]) (g := gName 2) (by rfl) sc_is_three.nd (pi_list (pv 1)) (blkOk_by (own := [("tie", 2)]) (N := ["ties", "thing", "tie"]) (sc := defScope s_is_three) (by decide +kernel)) (fun _ _ _ _ _ => pg_name (i := 2) sc_is_three.nd rfl (Or.inl rfl)) (fun _ _ _ _ _ => pts_nil) (fun _ _ _ _ _ => (pe_meth (pv 0) T.cl GH.M GH.F hr GH.b .nil pass0 (pa_cons (pv 2) pa_nil)))) pa_nil))))), ?_⟩
      exact ⟨_, rfl, v, .sc u, rfl, hv, fun H1 S1 => ⟨_, rfl, iteT (k _ S1)⟩⟩
    | dk =>
      refine ⟨_, (pss_cons 
  (ps_if (PW.pt (pw_or (pt_not (pt_val (pcal GS hr pass0 (pa_cons (pv 1) pa_nil)))) (pw_or1 (pt_cmpR op_ne (pe_callB call_len_seq (by rfl) nl PySem.boot_len (pa_cons (pv 1) pa_nil)) pe_int (nomark _))))) (pss_one 
    (ps_ret pe_bl)) pss_nil) (pss_one 
  (ps_ret (pe_callB (cr_all rfl) (by rfl) na (by decide +kernel) (pa_cons (pe_lc (own := [("tie", 2)]) (g := gName 2) (by rfl) sc_is_three.nd (pi_list (pv 1)) (blkOk_by (own := [("tie", 2)]) (N := ["ties", "thing", "tie"]) (sc := defScope s_is_three) (by decide +kernel)) (fun _ _ _ _ _ => pg_name (i := 2) sc_is_three.nd rfl (Or.inl rfl)) (fun _ _ _ _ _ => pts_nil) (fun _ _ _ _ _ => (pe_meth (pv 0) T.cl GH.M GH.F hr GH.b .nil pass0 (pa_cons (pv 2) pa_nil)))) pa_nil))))), ?_⟩
      exact ⟨_, rfl, v, .dk, rfl, hv, fun H1 S1 => ⟨_, rfl, iteT (k _ S1)⟩⟩
    | lst xs =>
      obtain ⟨p, rfl, hp⟩ := hv
      refine ⟨_, (pss_cons 
  (ps_if (PW.pt (pw_or (pt_not (pt_val (pcal GS hr pass0 (pa_cons (pv 1) pa_nil)))) (pw_or1 (pt_cmpR op_ne (pe_callB call_len_seq (by rfl) nl PySem.boot_len (pa_cons (pv 1) pa_nil)) pe_int (nomark _))))) (pss_one 
    (ps_ret pe_bl)) pss_nil) (pss_one 
  (ps_ret (pe_callB (cr_all rfl) (by rfl) na (by decide +kernel) (pa_cons (pe_lc (own := [("tie", 2)]) (g := gName 2) (by rfl) sc_is_three.nd (pi_list (pv 1)) (blkOk_by (own := [("tie", 2)]) (N := ["ties", "thing", "tie"]) (sc := defScope s_is_three) (by decide +kernel)) (fun _ _ _ _ _ => pg_name (i := 2) sc_is_three.nd rfl (Or.inl rfl)) (fun _ _ _ _ _ => pts_nil) (fun _ _ _ _ _ => (pe_meth (pv 0) T.cl GH.M GH.F hr GH.b .nil pass0 (pa_cons (pv 2) pa_nil)))) pa_nil))))), ?_⟩
      refine ⟨_, rfl, _, Sh.lst xs, rfl, ⟨p, rfl, hp⟩, fun H1 S1 => ⟨_, rfl, iteF ?_⟩⟩
      have hp1 := S1 _ _ hp
      refine ⟨_, rfl, p, xs, rfl, .inl (SqL.of hp1), rfl, _, rfl, ?_⟩
      refine ifB (fun c => ?_) (fun c => ?_)
      · have e : threeB ns (.lst xs) = false := threeB_len fun z => c (congrArg (fun n : Nat => V.int (n : Int)) z)
        rw [e] at k
        exact k _ S1
      have l3 : xs.length = 3 := V.int_nat c
      refine ⟨_, rfl, p, rfl, ⟨_, SqL.of hp1⟩, fun D hD => ?_⟩
      refine lc_list (K := K) (a := p) (xs := xs) (fun i H2 => Same H1 H2 ∧ H1 D = none ∧ H2 D = some (.lst ((xs.take i).map fun y => V.bl (tieB ns y)))) ⟨new_same hD, hD, upd_same⟩ (fun i H2 _ ⟨S, _⟩ => SqL.of (S _ _ hp1)) ?_ ?_
      · rintro i y H2 hy ⟨S2, D0, eD⟩
        have hi := (List.getElem?_eq_some_iff.mp hy).1
        obtain ⟨sy, isy⟩ := kn y (List.mem_of_getElem? hy)
        have SS := S1.trans S2
        obtain ⟨dx, t, hx, ht⟩ := id (hT.keep SS)
        refine ⟨rfl, yesT ?_⟩
        refine ⟨_, rfl, x, dx, _, rfl, hx, tf_no _ _ (by decide +kernel) (by decide +kernel), _, rfl, x, ns, y, sy, rfl, ⟨dx, t, hx, ht⟩, isy.keep SS, ?_⟩
        refine ⟨_, eD, by rw [List.length_map, List.length_take]; exact small1000 (by omega), fun b o e => ?_, D0, by rw [upd_same, List.take_add_one, hy, List.map_append]; rfl⟩
        rw [upd_ne (ne_of_none e D0)]
        exact S2 _ _ e
      · rintro H2 ⟨S2, D0, eD⟩
        rw [List.take_length] at eD
        refine ⟨D, xs.map (tieB ns), rfl, SqL.of (by rw [eD, List.map_map]; rfl), ?_⟩
        have e : threeB ns (.lst xs) = (xs.map (tieB ns)).all id := threeB_all l3
        rw [e] at k
        exact k _ (S1.trans S2)
    | tup xs =>
      obtain ⟨p, rfl, hp⟩ := hv
      refine ⟨_, (pss_cons 
  (ps_if (PW.pt (pw_or (pt_not (pt_val (pcal GS hr pass0 (pa_cons (pv 1) pa_nil)))) (pw_or1 (pt_cmpR op_ne (pe_callB call_len_seq (by rfl) nl PySem.boot_len (pa_cons (pv 1) pa_nil)) pe_int (nomark _))))) (pss_one 
    (ps_ret pe_bl)) pss_nil) (pss_one 
  (ps_ret (pe_callB (cr_all rfl) (by rfl) na (by decide +kernel) (pa_cons (pe_lc (own := [("tie", 2)]) (g := gName 2) (by rfl) sc_is_three.nd (pi_tup (pv 1)) (blkOk_by (own := [("tie", 2)]) (N := ["ties", "thing", "tie"]) (sc := defScope s_is_three) (by decide +kernel)) (fun _ _ _ _ _ => pg_name (i := 2) sc_is_three.nd rfl (Or.inl rfl)) (fun _ _ _ _ _ => pts_nil) (fun _ _ _ _ _ => (pe_meth (pv 0) T.cl GH.M GH.F hr GH.b .nil pass0 (pa_cons (pv 2) pa_nil)))) pa_nil))))), ?_⟩
      refine ⟨_, rfl, _, Sh.tup xs, rfl, ⟨p, rfl, hp⟩, fun H1 S1 => ⟨_, rfl, iteF ?_⟩⟩
      have hp1 := S1 _ _ hp
      refine ⟨_, rfl, p, xs, rfl, .inr (SqT.of hp1), rfl, _, rfl, ?_⟩
      refine ifB (fun c => ?_) (fun c => ?_)
      · have e : threeB ns (.tup xs) = false := threeB_len fun z => c (congrArg (fun n : Nat => V.int (n : Int)) z)
        rw [e] at k
        exact k _ S1
      have l3 : xs.length = 3 := V.int_nat c
      refine ⟨_, rfl, p, rfl, ⟨_, SqT.of hp1⟩, fun D hD => ?_⟩
      refine lc_tup (K := K) (a := p) (xs := xs) (fun i H2 => Same H1 H2 ∧ H1 D = none ∧ H2 D = some (.lst ((xs.take i).map fun y => V.bl (tieB ns y)))) ⟨new_same hD, hD, upd_same⟩ (fun i H2 _ ⟨S, _⟩ => SqT.of (S _ _ hp1)) ?_ ?_
      · rintro i y H2 hy ⟨S2, D0, eD⟩
        have hi := (List.getElem?_eq_some_iff.mp hy).1
        obtain ⟨sy, isy⟩ := kn y (List.mem_of_getElem? hy)
        have SS := S1.trans S2
        obtain ⟨dx, t, hx, ht⟩ := id (hT.keep SS)
        refine ⟨rfl, yesT ?_⟩
        refine ⟨_, rfl, x, dx, _, rfl, hx, tf_no _ _ (by decide +kernel) (by decide +kernel), _, rfl, x, ns, y, sy, rfl, ⟨dx, t, hx, ht⟩, isy.keep SS, ?_⟩
        refine ⟨_, eD, by rw [List.length_map, List.length_take]; exact small1000 (by omega), fun b o e => ?_, D0, by rw [upd_same, List.take_add_one, hy, List.map_append]; rfl⟩
        rw [upd_ne (ne_of_none e D0)]
        exact S2 _ _ e
      · rintro H2 ⟨S2, D0, eD⟩
        rw [List.take_length] at eD
        refine ⟨D, xs.map (tieB ns), rfl, SqL.of (by rw [eD, List.map_map]; rfl), ?_⟩
        have e : threeB ns (.tup xs) = (xs.map (tieB ns)).all id := threeB_all l3
        rw [e] at k
        exact k _ (S1.trans S2)
end
end J

set_option Elab.async false
set_option linter.all false
set_option maxRecDepth 100000
set_option maxHeartbeats 8000000
namespace J
open PySem PySem.Spec PyProof.Rows L2
/-! ### the readings of a three -/
def bk (ns : List Int) (t : Int) : Int := (ns[t.toNat]?).getD 0
def InT (ns : List Int) (t : Int) : Prop := 0 ≤ t ∧ t < (ns.length : Nat)
theorem bk_get {ns : List Int} {t : Int} (h : InT ns t) : ns[t.toNat]? = some (bk ns t) := by
  have hl : t.toNat < ns.length := by have := h.1; have := h.2; omega
  unfold bk
  rw [List.getElem?_eq_getElem hl]
  rfl
theorem bk_in {ns : List Int} {t : Int} (g : GoodB ns) (h : InT ns t) : InT ns (bk ns t) := g.rng _ (List.mem_of_getElem? (bk_get h))
theorem bk_bk {ns : List Int} {t : Int} (g : GoodB ns) (h : InT ns t) : bk ns (bk ns t) = t := by
  have := g.inv _ _ (bk_get h)
  show (ns[(bk ns t).toNat]?).getD 0 = t
  rw [this]
  show ((t.toNat : Nat) : Int) = t
  exact Int.toNat_of_nonneg h.1
def six (ns : List Int) (p q r : Int) : List (List Int) := [[p, q, r], [r, bk ns q, p], [bk ns p, r, q], [q, bk ns r, bk ns p], [bk ns r, p, bk ns q], [bk ns q, bk ns p, bk ns r]]
/-- the readings, ascending, each once -/
def RdL (ns : List Int) (p q r : Int) (L : List (List Int)) : Prop := L.Pairwise (fun a b => TS.code 4 a < TS.code 4 b) ∧ ∀ x, x ∈ L ↔ x ∈ six ns p q r
def ks6 (ns : List Int) (p q r : Int) (t1 t2 t3 t4 t5 t6 : Addr) : List (Addr × List Int) := [(t1, [p, q, r]), (t2, [r, bk ns q, p]), (t3, [bk ns p, r, q]), (t4, [q, bk ns r, bk ns p]), (t5, [bk ns r, p, bk ns q]), (t6, [bk ns q, bk ns p, bk ns r])]
theorem ks6_six {ns : List Int} {p q r : Int} {t1 t2 t3 t4 t5 t6 : Addr} {y : Addr × List Int} (h : y ∈ ks6 ns p q r t1 t2 t3 t4 t5 t6) : y.2 ∈ six ns p q r := by
  simp only [ks6, List.mem_cons, List.not_mem_nil, or_false] at h
  rcases h with rfl | rfl | rfl | rfl | rfl | rfl <;> simp [six]
theorem six_ks6 {ns : List Int} {p q r : Int} {t1 t2 t3 t4 t5 t6 : Addr} {x : List Int} (h : x ∈ six ns p q r) : ∃ y ∈ ks6 ns p q r t1 t2 t3 t4 t5 t6, y.2 = x := by
  simp only [six, List.mem_cons, List.not_mem_nil, or_false] at h
  rcases h with rfl | rfl | rfl | rfl | rfl | rfl
  · exact ⟨(t1, _), by simp [ks6], rfl⟩
  · exact ⟨(t2, _), by simp [ks6], rfl⟩
  · exact ⟨(t3, _), by simp [ks6], rfl⟩
  · exact ⟨(t4, _), by simp [ks6], rfl⟩
  · exact ⟨(t5, _), by simp [ks6], rfl⟩
  · exact ⟨(t6, _), by simp [ks6], rfl⟩
theorem six_in {ns : List Int} {p q r : Int} (g : GoodB ns) (ip : InT ns p) (iq : InT ns q) (ir : InT ns r) : ∀ x ∈ six ns p q r, ∃ a b c, x = [a, b, c] ∧ InT ns a ∧ InT ns b ∧ InT ns c := by
  have bp := bk_in g ip
  have bq := bk_in g iq
  have br := bk_in g ir
  intro x h
  simp only [six, List.mem_cons, List.not_mem_nil, or_false] at h
  rcases h with rfl | rfl | rfl | rfl | rfl | rfl
  · exact ⟨_, _, _, rfl, ip, iq, ir⟩
  · exact ⟨_, _, _, rfl, ir, bq, ip⟩
  · exact ⟨_, _, _, rfl, bp, ir, iq⟩
  · exact ⟨_, _, _, rfl, iq, br, bp⟩
  · exact ⟨_, _, _, rfl, br, ip, bq⟩
  · exact ⟨_, _, _, rfl, bq, bp, br⟩
theorem six_bd {ns : List Int} {p q r : Int} (g : GoodB ns) (ip : InT ns p) (iq : InT ns q) (ir : InT ns r) : ∀ x ∈ six ns p q r, x.length = 3 ∧ TS.Bd 4 x := by
  intro x h
  obtain ⟨a, b, c, rfl, ia, ib, ic⟩ := six_in g ip iq ir x h
  have h4 := g.hi
  refine ⟨rfl, fun m hm => ?_⟩
  simp only [List.mem_cons, List.not_mem_nil, or_false] at hm
  rcases hm with rfl | rfl | rfl
  · exact ⟨ia.1, by have := ia.2; omega⟩
  · exact ⟨ib.1, by have := ib.2; omega⟩
  · exact ⟨ic.1, by have := ic.2; omega⟩
theorem code_inj {B : Int} : ∀ {r q : List Int}, r.length = q.length → TS.Bd B r → TS.Bd B q → TS.code B r = TS.code B q → r = q
  | [], [], _, _, _, _ => rfl
  | [], _ :: _, h, _, _, _ => by cases h
  | _ :: _, [], h, _, _, _ => by cases h
  | d :: r, e :: q, h, b1, b2, c => by
    have hl : r.length = q.length := Nat.succ.inj h
    rcases Int.lt_trichotomy d e with h1 | h1 | h1
    · have := TS.code_lt hl b1.tail b2.tail h1
      omega
    · subst h1
      have n1 : ¬ TS.code B r < TS.code B q := fun z => by have := (TS.code_same (d := d) hl).mpr z; omega
      have n2 : ¬ TS.code B q < TS.code B r := fun z => by have := (TS.code_same (d := d) hl.symm).mpr z; omega
      rw [code_inj hl b1.tail b2.tail (by omega)]
    · have := TS.code_lt hl.symm b2.tail b1.tail h1
      omega
theorem threeB_ints {ns : List Int} {xs : List V} (h : (decide (xs.length = 3) && xs.all (tieB ns)) = true) : ∃ p q r, xs = [.int p, .int q, .int r] ∧ InT ns p ∧ InT ns q ∧ InT ns r := by
  obtain ⟨h1, h2⟩ := Bool.and_eq_true_iff.mp h
  have l3 := of_decide_eq_true h1
  rw [List.all_eq_true] at h2
  obtain ⟨a, b, c, rfl⟩ : ∃ a b c, xs = [a, b, c] := match xs, l3 with | [a, b, c], _ => ⟨a, b, c, rfl⟩
  have one : ∀ y ∈ [a, b, c], ∃ t, y = V.int t ∧ InT ns t := fun y hy => by
    obtain ⟨i, v, e, e2⟩ := tieB_true (h2 y hy)
    exact ⟨_, e, by omega, by have := (List.getElem?_eq_some_iff.mp e2).1; omega⟩
  obtain ⟨p, rfl, ip⟩ := one a (by simp)
  obtain ⟨q, rfl, iq⟩ := one b (by simp)
  obtain ⟨r, rfl, ir⟩ := one c (by simp)
  exact ⟨p, q, r, rfl, ip, iq, ir⟩
theorem bk_of {ns : List Int} {t b : Int} {i : Nat} (ht : InT ns t) (e1 : V.int t = V.int ((i : Nat) : Int)) (e2 : ns[i]? = some b) : bk ns t = b := by
  have e : t = (i : Int) := by injection e1
  subst e
  have q := bk_get ht
  rw [show ((i : Int)).toNat = i from Int.toNat_natCast i, e2] at q
  exact (Option.some.inj q).symm
theorem tie_in {ns : List Int} {t : Int} (ht : InT ns t) : tieB ns (.int t) = true := by
  show (decide (0 ≤ t) && decide (t ≤ ((ns.length : Nat) : Int) - 1)) = true
  rw [decide_eq_true ht.1, decide_eq_true (by have := ht.2; omega)]
  rfl
theorem tie_no {ns : List Int} {t : Int} {A : Prop} (ht : InT ns t) (e : tieB ns (.int t) = false) : A := by
  rw [tie_in ht] at e
  cases e
def TupsAt (H : Hp) (z : Addr) (L : List (List Int)) : Prop := ∃ ps : List Addr, H z = some (.tup (ps.map V.ref)) ∧ ps.length = L.length ∧ ∀ (j : Nat) (a : Addr) (ts : List Int), ps[j]? = some a → L[j]? = some ts → H a = some (.tup (ts.map V.int))
theorem TupsAt.keep {H H' : Hp} {z : Addr} {L : List (List Int)} (h : TupsAt H z L) (S : Same H H') : TupsAt H' z L := by
  obtain ⟨ps, a, b, c⟩ := h
  exact ⟨ps, S _ _ a, b, fun j x ts e1 e2 => S _ _ (c j x ts e1 e2)⟩
theorem same_free {H H' : Hp} {a : Addr} (S : Same H H') (e : H' a = none) : H a = none := by
  cases q : H a with
  | none => rfl
  | some o =>
    have := S _ _ q
    rw [e] at this
    cases this
abbrev s_NoThree_init : Stmt := inClass (top 6) 0
theorem sc_NoThree_init : FnScope ["self", "three"] ["self", "three"] (defScope s_NoThree_init) := ⟨rfl, rfl, rfl, by decide +kernel, rfl, by decide +kernel, by decide +kernel⟩
abbrev s_readings_of : Stmt := top 26
theorem sc_readings_of : FnScope ["ties", "three", "p", "q", "r", "p_back", "q_back", "r_back", "readings"] ["ties", "three"] (defScope s_readings_of) := ⟨rfl, rfl, rfl, by decide +kernel, rfl, by decide +kernel, by decide +kernel⟩
def spReadings (C CT : Addr) : Sp := fun vs H Q E => ∃ (x : Addr) (ns : List Int) (v : V) (s : Sh), vs = [.ref x, v] ∧ TiesAt C H x ns ∧ GoodB ns ∧ Is H v s ∧ Known H (items s) ∧ (threeB ns s = false → Tells H CT "three" v E) ∧
  (∀ p q r, items s = [.int p, .int q, .int r] → InT ns p → InT ns q → InT ns r → ∀ (H' : Hp) (z : Addr) (L : List (List Int)), Same H H' → H z = none → TupsAt H' z L → RdL ns p q r L → Q (.ref z) H')
abbrev s_least_reading : Stmt := top 27
theorem sc_least_reading : FnScope ["ties", "three"] ["ties", "three"] (defScope s_least_reading) := ⟨rfl, rfl, rfl, by decide +kernel, rfl, by decide +kernel, by decide +kernel⟩
def spLeast (C CT : Addr) : Sp := fun vs H Q E => ∃ (x : Addr) (ns : List Int) (v : V) (s : Sh), vs = [.ref x, v] ∧ TiesAt C H x ns ∧ GoodB ns ∧ Is H v s ∧ Known H (items s) ∧ (threeB ns s = false → Tells H CT "three" v E) ∧
  (∀ p q r, items s = [.int p, .int q, .int r] → InT ns p → InT ns q → InT ns r → ∀ (H' : Hp) (z : Addr) (t : List Int) (L : List (List Int)), Same H H' → H' z = some (.tup (t.map V.int)) → RdL ns p q r (t :: L) → Q (.ref z) H')
section
variable {P : Program} {w : World} {K : PySem.W.Frag} {mg : Str → Option Value} {base : Heap}
theorem ok_NoThree_init {f C : Addr} {fd : FuncData} (F : Fun K "__init__" "NoThree.__init__" s_NoThree_init f fd) (o : OexC K C) (no : PySem.W.findIn K (.ref C) "three" = some none) : FnOk P w K mg base CX0 1 f fd ["self", "three"] (spXI C "three") := by
  refine F.ok sc_NoThree_init (fun vs H Q E h => ?_) (fun cdv A outer s H vs Q E hr h => ?_)
  · obtain ⟨x, s, rfl, _⟩ := h
    rfl
  · obtain ⟨a, v, rfl, ha, k⟩ := h
    refine ⟨_, pss_one (ps_ost (pv 0) (pv 1)), ?_⟩
    exact ⟨_, rfl, _, rfl, a, C, rfl, o, no, .inl ⟨ha, k⟩⟩
theorem ok_readings_of {f C CN CT fI fB fT : Addr} {fd fdI fdB fdT : FuncData} (F : Fun K "readings_of" "readings_of" s_readings_of f fd) (T : TiC K C) (nt : mg "tuple" = none) (nso : mg "sorted" = none) (nse : mg "set" = none)
    (GI : Cal P w K mg base CX0 3 "is_three" fI fdI ["ties", "thing"] (spThree C)) (GB : Mt P w K mg base (L2.CX P w) 3 C "back" fB fdB ["self", "tie"] (spBack C CN)) (GT : Ex P w K mg base "NoThree" "three" CT fT fdT ["self", "three"]) :
    FnOk P w K mg base (L2.CX P w) 4 f fd ["ties", "three"] (spReadings C CT) := by
  refine F.okX sc_readings_of (fun vs H Q E h => ?_) (fun cdv A outer s H vs Q E hr h => ?_)
  · obtain ⟨x, ns, v, s, rfl, _⟩ := h
    rfl
  · obtain ⟨x, ns, v, s, rfl, hT, gb, hv, kn, k1, k2⟩ := h
    have hr2 : Room 2 _ := hr.mono (by decide)
    cases s with
    | sc u =>
      refine ⟨_, (pss_cons 
  (ps_if (pt_not (pt_val (pcal GI hr pass0 (pa_cons (pv 0) (pa_cons (pv 1) pa_nil))))) (pss_one 
    (ps_raise rfl (takes_of rfl rfl rfl rfl) (pmk_oex GT.o GT.i GT.t GT.F hr2 GT.b .nil pass0 rfl GT.m (pa_cons (pv 1) pa_nil)))) pss_nil) (pss_cons 
  (ps_asg (pv 1) (pg_tup (by rfl) (pgs_cons (pg_name (i := 2) sc_readings_of.nd rfl (Or.inl rfl)) (pgs_cons (pg_name (i := 3) sc_readings_of.nd rfl (Or.inl rfl)) (pgs_cons (pg_name (i := 4) sc_readings_of.nd rfl (Or.inl rfl)) pgs_nil))))) (pss_cons 
  (ps_set (i := 5) sc_readings_of.nd rfl (Or.inl rfl) (pe_meth (pv 0) T.cl GB.M GB.F hr GB.b .nil passL (pa_cons (pv 2) pa_nil))) (pss_cons 
  (ps_set (i := 6) sc_readings_of.nd rfl (Or.inl rfl) (pe_meth (pv 0) T.cl GB.M GB.F hr GB.b .nil passL (pa_cons (pv 3) pa_nil))) (pss_cons 
  (ps_set (i := 7) sc_readings_of.nd rfl (Or.inl rfl) (pe_meth (pv 0) T.cl GB.M GB.F hr GB.b .nil passL (pa_cons (pv 4) pa_nil))) (pss_cons 
  (ps_set (i := 8) sc_readings_of.nd rfl (Or.inl rfl) (pe_lst (pa_cons (pe_tup (pa_cons (pv 2) (pa_cons (pv 3) (pa_cons (pv 4) pa_nil)))) (pa_cons (pe_tup (pa_cons (pv 4) (pa_cons (pv 6) (pa_cons (pv 2) pa_nil)))) (pa_cons (pe_tup (pa_cons (pv 5) (pa_cons (pv 4) (pa_cons (pv 3) pa_nil)))) (pa_cons (pe_tup (pa_cons (pv 3) (pa_cons (pv 7) (pa_cons (pv 5) pa_nil)))) (pa_cons (pe_tup (pa_cons (pv 7) (pa_cons (pv 2) (pa_cons (pv 6) pa_nil)))) (pa_cons (pe_tup (pa_cons (pv 6) (pa_cons (pv 5) (pa_cons (pv 7) pa_nil)))) pa_nil)))))))) (pss_one 
  (ps_ret (pe_callTy (T := "tuple") (r := rTup K) call_tuple_of (by rfl) nt (by decide +kernel) (pa_cons (pe_callB (cr_sortedT rfl) (by rfl) nso (by decide +kernel) (pa_cons (pe_callTy (cr_setOfT rfl hr.units) (by rfl) nse (by decide +kernel) (pa_cons (pv 8) pa_nil)) pa_nil)) pa_nil)))))))))), ?_⟩
      exact ⟨_, rfl, _, rfl, x, ns, v, .sc u, rfl, hT, hv, kn, fun H1 S1 => ⟨_, rfl, iteT ⟨_, rfl, mkO_of ((k1 rfl).mono S1)⟩⟩⟩
    | dk =>
      refine ⟨_, (pss_cons 
  (ps_if (pt_not (pt_val (pcal GI hr pass0 (pa_cons (pv 0) (pa_cons (pv 1) pa_nil))))) (pss_one 
    (ps_raise rfl (takes_of rfl rfl rfl rfl) (pmk_oex GT.o GT.i GT.t GT.F hr2 GT.b .nil pass0 rfl GT.m (pa_cons (pv 1) pa_nil)))) pss_nil) (pss_cons 
  (ps_asg (pv 1) (pg_tup (by rfl) (pgs_cons (pg_name (i := 2) sc_readings_of.nd rfl (Or.inl rfl)) (pgs_cons (pg_name (i := 3) sc_readings_of.nd rfl (Or.inl rfl)) (pgs_cons (pg_name (i := 4) sc_readings_of.nd rfl (Or.inl rfl)) pgs_nil))))) (pss_cons 
  (ps_set (i := 5) sc_readings_of.nd rfl (Or.inl rfl) (pe_meth (pv 0) T.cl GB.M GB.F hr GB.b .nil passL (pa_cons (pv 2) pa_nil))) (pss_cons 
  (ps_set (i := 6) sc_readings_of.nd rfl (Or.inl rfl) (pe_meth (pv 0) T.cl GB.M GB.F hr GB.b .nil passL (pa_cons (pv 3) pa_nil))) (pss_cons 
  (ps_set (i := 7) sc_readings_of.nd rfl (Or.inl rfl) (pe_meth (pv 0) T.cl GB.M GB.F hr GB.b .nil passL (pa_cons (pv 4) pa_nil))) (pss_cons 
  (ps_set (i := 8) sc_readings_of.nd rfl (Or.inl rfl) (pe_lst (pa_cons (pe_tup (pa_cons (pv 2) (pa_cons (pv 3) (pa_cons (pv 4) pa_nil)))) (pa_cons (pe_tup (pa_cons (pv 4) (pa_cons (pv 6) (pa_cons (pv 2) pa_nil)))) (pa_cons (pe_tup (pa_cons (pv 5) (pa_cons (pv 4) (pa_cons (pv 3) pa_nil)))) (pa_cons (pe_tup (pa_cons (pv 3) (pa_cons (pv 7) (pa_cons (pv 5) pa_nil)))) (pa_cons (pe_tup (pa_cons (pv 7) (pa_cons (pv 2) (pa_cons (pv 6) pa_nil)))) (pa_cons (pe_tup (pa_cons (pv 6) (pa_cons (pv 5) (pa_cons (pv 7) pa_nil)))) pa_nil)))))))) (pss_one 
  (ps_ret (pe_callTy (T := "tuple") (r := rTup K) call_tuple_of (by rfl) nt (by decide +kernel) (pa_cons (pe_callB (cr_sortedT rfl) (by rfl) nso (by decide +kernel) (pa_cons (pe_callTy (cr_setOfT rfl hr.units) (by rfl) nse (by decide +kernel) (pa_cons (pv 8) pa_nil)) pa_nil)) pa_nil)))))))))), ?_⟩
      exact ⟨_, rfl, _, rfl, x, ns, v, .dk, rfl, hT, hv, kn, fun H1 S1 => ⟨_, rfl, iteT ⟨_, rfl, mkO_of ((k1 rfl).mono S1)⟩⟩⟩
    | lst xs =>
      obtain ⟨pp, rfl, hp⟩ := hv
      refine ⟨_, (pss_cons 
  (ps_if (pt_not (pt_val (pcal GI hr pass0 (pa_cons (pv 0) (pa_cons (pv 1) pa_nil))))) (pss_one 
    (ps_raise rfl (takes_of rfl rfl rfl rfl) (pmk_oex GT.o GT.i GT.t GT.F hr2 GT.b .nil pass0 rfl GT.m (pa_cons (pv 1) pa_nil)))) pss_nil) (pss_cons 
  (ps_asg (pv 1) (pg_unl rfl (pgs_cons (pg_name (i := 2) sc_readings_of.nd rfl (Or.inl rfl)) (pgs_cons (pg_name (i := 3) sc_readings_of.nd rfl (Or.inl rfl)) (pgs_cons (pg_name (i := 4) sc_readings_of.nd rfl (Or.inl rfl)) pgs_nil))))) (pss_cons 
  (ps_set (i := 5) sc_readings_of.nd rfl (Or.inl rfl) (pe_meth (pv 0) T.cl GB.M GB.F hr GB.b .nil passL (pa_cons (pv 2) pa_nil))) (pss_cons 
  (ps_set (i := 6) sc_readings_of.nd rfl (Or.inl rfl) (pe_meth (pv 0) T.cl GB.M GB.F hr GB.b .nil passL (pa_cons (pv 3) pa_nil))) (pss_cons 
  (ps_set (i := 7) sc_readings_of.nd rfl (Or.inl rfl) (pe_meth (pv 0) T.cl GB.M GB.F hr GB.b .nil passL (pa_cons (pv 4) pa_nil))) (pss_cons 
  (ps_set (i := 8) sc_readings_of.nd rfl (Or.inl rfl) (pe_lst (pa_cons (pe_tup (pa_cons (pv 2) (pa_cons (pv 3) (pa_cons (pv 4) pa_nil)))) (pa_cons (pe_tup (pa_cons (pv 4) (pa_cons (pv 6) (pa_cons (pv 2) pa_nil)))) (pa_cons (pe_tup (pa_cons (pv 5) (pa_cons (pv 4) (pa_cons (pv 3) pa_nil)))) (pa_cons (pe_tup (pa_cons (pv 3) (pa_cons (pv 7) (pa_cons (pv 5) pa_nil)))) (pa_cons (pe_tup (pa_cons (pv 7) (pa_cons (pv 2) (pa_cons (pv 6) pa_nil)))) (pa_cons (pe_tup (pa_cons (pv 6) (pa_cons (pv 5) (pa_cons (pv 7) pa_nil)))) pa_nil)))))))) (pss_one 
  (ps_ret (pe_callTy (T := "tuple") (r := rTup K) call_tuple_of (by rfl) nt (by decide +kernel) (pa_cons (pe_callB (cr_sortedT rfl) (by rfl) nso (by decide +kernel) (pa_cons (pe_callTy (cr_setOfT rfl hr.units) (by rfl) nse (by decide +kernel) (pa_cons (pv 8) pa_nil)) pa_nil)) pa_nil)))))))))), ?_⟩
      refine ⟨_, rfl, _, rfl, x, ns, _, Sh.lst xs, rfl, hT, ⟨pp, rfl, hp⟩, kn, fun H1 S1 => ⟨_, rfl, ?_⟩⟩
      cases e : threeB ns (.lst xs) with
      | false => exact iteT ⟨_, rfl, mkO_of ((k1 e).mono S1)⟩
      | true =>
        obtain ⟨p, q, r, rfl, ip, iq, ir⟩ := threeB_ints e
        refine iteF ?_
        refine ⟨_, rfl, pp, _, rfl, SqL.of (S1 _ _ hp), rfl, _, _, rfl, _, _, rfl, _, _, rfl, rfl, ?_⟩
        have hT1 := hT.keep S1
        obtain ⟨dx, t, hx, ht⟩ := id hT1
        have nl : (tf t (ns.length : Nat)).lookup ("back" : Str) = none := tf_no _ _ (by decide +kernel) (by decide +kernel)
        refine ⟨_, rfl, x, dx, _, rfl, hx, nl, _, rfl, x, ns, .int p, .sc (.int p), rfl, hT1, ⟨rfl, rfl⟩, fun jp bp e1 e2 => ?_, fun e => tie_no ip e⟩
        obtain rfl := bk_of ip e1 e2
        refine ⟨_, rfl, x, dx, _, rfl, hx, nl, _, rfl, x, ns, .int q, .sc (.int q), rfl, hT1, ⟨rfl, rfl⟩, fun jq bq e1 e2 => ?_, fun e => tie_no iq e⟩
        obtain rfl := bk_of iq e1 e2
        refine ⟨_, rfl, x, dx, _, rfl, hx, nl, _, rfl, x, ns, .int r, .sc (.int r), rfl, hT1, ⟨rfl, rfl⟩, fun jr br e1 e2 => ?_, fun e => tie_no ir e⟩
        obtain rfl := bk_of ir e1 e2
        refine ⟨_, rfl, _, rfl, _, rfl, (by show 3 ≤ sizeLine; decide), fun t1 ht1 => ?_⟩
        have W1 : Same H1 (upd H1 t1 (.tup [.int p, .int q, .int r])) := new_same ht1
        have f1 : (upd H1 t1 (.tup [.int p, .int q, .int r])) t1 = some (.tup [.int p, .int q, .int r]) := upd_same
        generalize upd H1 t1 (.tup [.int p, .int q, .int r]) = K1 at W1 f1
        refine ⟨_, rfl, _, rfl, _, rfl, (by show 3 ≤ sizeLine; decide), fun t2 ht2 => ?_⟩
        have W2 : Same K1 (upd K1 t2 (.tup [.int r, .int (bk ns q), .int p])) := new_same ht2
        have f2 : (upd K1 t2 (.tup [.int r, .int (bk ns q), .int p])) t2 = some (.tup [.int r, .int (bk ns q), .int p]) := upd_same
        generalize upd K1 t2 (.tup [.int r, .int (bk ns q), .int p]) = K2 at W2 f2
        refine ⟨_, rfl, _, rfl, _, rfl, (by show 3 ≤ sizeLine; decide), fun t3 ht3 => ?_⟩
        have W3 : Same K2 (upd K2 t3 (.tup [.int (bk ns p), .int r, .int q])) := new_same ht3
        have f3 : (upd K2 t3 (.tup [.int (bk ns p), .int r, .int q])) t3 = some (.tup [.int (bk ns p), .int r, .int q]) := upd_same
        generalize upd K2 t3 (.tup [.int (bk ns p), .int r, .int q]) = K3 at W3 f3
        refine ⟨_, rfl, _, rfl, _, rfl, (by show 3 ≤ sizeLine; decide), fun t4 ht4 => ?_⟩
        have W4 : Same K3 (upd K3 t4 (.tup [.int q, .int (bk ns r), .int (bk ns p)])) := new_same ht4
        have f4 : (upd K3 t4 (.tup [.int q, .int (bk ns r), .int (bk ns p)])) t4 = some (.tup [.int q, .int (bk ns r), .int (bk ns p)]) := upd_same
        generalize upd K3 t4 (.tup [.int q, .int (bk ns r), .int (bk ns p)]) = K4 at W4 f4
        refine ⟨_, rfl, _, rfl, _, rfl, (by show 3 ≤ sizeLine; decide), fun t5 ht5 => ?_⟩
        have W5 : Same K4 (upd K4 t5 (.tup [.int (bk ns r), .int p, .int (bk ns q)])) := new_same ht5
        have f5 : (upd K4 t5 (.tup [.int (bk ns r), .int p, .int (bk ns q)])) t5 = some (.tup [.int (bk ns r), .int p, .int (bk ns q)]) := upd_same
        generalize upd K4 t5 (.tup [.int (bk ns r), .int p, .int (bk ns q)]) = K5 at W5 f5
        refine ⟨_, rfl, _, rfl, _, rfl, (by show 3 ≤ sizeLine; decide), fun t6 ht6 => ?_⟩
        have W6 : Same K5 (upd K5 t6 (.tup [.int (bk ns q), .int (bk ns p), .int (bk ns r)])) := new_same ht6
        have f6 : (upd K5 t6 (.tup [.int (bk ns q), .int (bk ns p), .int (bk ns r)])) t6 = some (.tup [.int (bk ns q), .int (bk ns p), .int (bk ns r)]) := upd_same
        generalize upd K5 t6 (.tup [.int (bk ns q), .int (bk ns p), .int (bk ns r)]) = K6 at W6 f6
        refine ⟨(by show 6 ≤ sizeLine; decide), fun l hl => ?_⟩
        have W7 : Same K6 (upd K6 l (.lst [.ref t1, .ref t2, .ref t3, .ref t4, .ref t5, .ref t6])) := new_same hl
        have f7 : (upd K6 l (.lst [.ref t1, .ref t2, .ref t3, .ref t4, .ref t5, .ref t6])) l = some (.lst [.ref t1, .ref t2, .ref t3, .ref t4, .ref t5, .ref t6]) := upd_same
        generalize upd K6 l (.lst [.ref t1, .ref t2, .ref t3, .ref t4, .ref t5, .ref t6]) = K7 at W7 f7
        have V6 := W7
        have V5 := W6.trans V6
        have V4 := W5.trans V5
        have V3 := W4.trans V4
        have V2 := W3.trans V3
        have V1 := W2.trans V2
        have S7 : Same H K7 := (S1.trans W1).trans V1
        have hks : ∀ y ∈ ks6 ns p q r t1 t2 t3 t4 t5 t6, K7 y.1 = some (.tup (y.2.map V.int)) := fun y hy => by
          simp only [ks6, List.mem_cons, List.not_mem_nil, or_false] at hy
          rcases hy with rfl | rfl | rfl | rfl | rfl | rfl
          · exact V1 _ _ f1
          · exact V2 _ _ f2
          · exact V3 _ _ f3
          · exact V4 _ _ f4
          · exact V5 _ _ f5
          · exact V6 _ _ f6
        refine ⟨_, rfl, l, ks6 ns p q r t1 t2 t3 t4 t5 t6, rfl, SqL.of f7, fun y hy => SqT.of (hks y hy), (by show 6 < 64; decide), fun a L ha hL1 hL2 => ?_⟩
        have W8 : Same K7 (upd K7 a (SetTO P w a L)) := new_same ha
        have bd : ∀ y ∈ L, y.2.length = 3 ∧ TS.Bd 4 y.2 := fun y hy => six_bd gb ip iq ir _ (ks6_six (hL1 y hy))
        refine ⟨a, L, 3, 4, rfl, upd_same, fun y hy => SqT.of (W8 _ _ (hks y (hL1 y hy))), by decide, bd, fun L' z2 pm nd _ pw hz2 => ?_⟩
        have W9 : Same (upd K7 a (SetTO P w a L)) (upd (upd K7 a (SetTO P w a L)) z2 (.lst (L'.map fun q => V.ref q.1))) := new_same hz2
        have mem' : ∀ y ∈ L', y ∈ L := fun y hy => pm.mem_iff.mp hy
        refine ⟨z2, _, rfl, .inl ⟨SqL.of upd_same, fun z hz => ?_⟩⟩
        have W10 := new_same (o := .tup (L'.map fun q => V.ref q.1)) hz
        refine k2 p q r rfl ip iq ir _ z (L'.map (·.2)) (((S7.trans W8).trans W9).trans W10) (by
            have := same_free W9 hz
            exact same_free S7 (same_free W8 this)) ⟨L'.map (·.1), by rw [upd_same, List.map_map]; rfl, by rw [List.length_map, List.length_map], fun j a' ts e1 e2 => ?_⟩ ⟨?_, fun x => ⟨fun hx => ?_, fun hx => ?_⟩⟩
        · rw [List.getElem?_map] at e1 e2
          cases ej : L'[j]? with
          | none => rw [ej] at e1; cases e1
          | some y =>
            rw [ej] at e1 e2
            obtain rfl := Option.some.inj e1
            obtain rfl := Option.some.inj e2
            have my := mem' y (List.mem_of_getElem? ej)
            exact W10 _ _ (W9 _ _ (W8 _ _ (hks y (hL1 y my))))
        · rw [List.pairwise_map]
          have nd' : L'.Pairwise fun a b => a.2 ≠ b.2 := by
            have : (L'.map (·.2)).Pairwise (· ≠ ·) := nd
            rwa [List.pairwise_map] at this
          refine (pw.and nd').imp_of_mem fun {a b} ma mb h => ?_
          obtain ⟨h1, h2⟩ := h
          rcases Int.lt_or_eq_of_le h1 with h3 | h3
          · exact h3
          · obtain ⟨l1, b1⟩ := bd a (mem' a ma)
            obtain ⟨l2, b2⟩ := bd b (mem' b mb)
            exact absurd (code_inj (by omega) b1 b2 h3) h2
        · obtain ⟨y, hy, rfl⟩ := List.mem_map.mp hx
          exact ks6_six (hL1 y (mem' y hy))
        · obtain ⟨y, hy, rfl⟩ := six_ks6 (t1 := t1) (t2 := t2) (t3 := t3) (t4 := t4) (t5 := t5) (t6 := t6) hx
          obtain ⟨y', hy', e⟩ := List.mem_map.mp (hL2 y hy)
          exact List.mem_map.mpr ⟨y', pm.mem_iff.mpr hy', e⟩
    | tup xs =>
      obtain ⟨pp, rfl, hp⟩ := hv
      refine ⟨_, (pss_cons 
  (ps_if (pt_not (pt_val (pcal GI hr pass0 (pa_cons (pv 0) (pa_cons (pv 1) pa_nil))))) (pss_one 
    (ps_raise rfl (takes_of rfl rfl rfl rfl) (pmk_oex GT.o GT.i GT.t GT.F hr2 GT.b .nil pass0 rfl GT.m (pa_cons (pv 1) pa_nil)))) pss_nil) (pss_cons 
  (ps_asg (pv 1) (pg_tup (by rfl) (pgs_cons (pg_name (i := 2) sc_readings_of.nd rfl (Or.inl rfl)) (pgs_cons (pg_name (i := 3) sc_readings_of.nd rfl (Or.inl rfl)) (pgs_cons (pg_name (i := 4) sc_readings_of.nd rfl (Or.inl rfl)) pgs_nil))))) (pss_cons 
  (ps_set (i := 5) sc_readings_of.nd rfl (Or.inl rfl) (pe_meth (pv 0) T.cl GB.M GB.F hr GB.b .nil passL (pa_cons (pv 2) pa_nil))) (pss_cons 
  (ps_set (i := 6) sc_readings_of.nd rfl (Or.inl rfl) (pe_meth (pv 0) T.cl GB.M GB.F hr GB.b .nil passL (pa_cons (pv 3) pa_nil))) (pss_cons 
  (ps_set (i := 7) sc_readings_of.nd rfl (Or.inl rfl) (pe_meth (pv 0) T.cl GB.M GB.F hr GB.b .nil passL (pa_cons (pv 4) pa_nil))) (pss_cons 
  (ps_set (i := 8) sc_readings_of.nd rfl (Or.inl rfl) (pe_lst (pa_cons (pe_tup (pa_cons (pv 2) (pa_cons (pv 3) (pa_cons (pv 4) pa_nil)))) (pa_cons (pe_tup (pa_cons (pv 4) (pa_cons (pv 6) (pa_cons (pv 2) pa_nil)))) (pa_cons (pe_tup (pa_cons (pv 5) (pa_cons (pv 4) (pa_cons (pv 3) pa_nil)))) (pa_cons (pe_tup (pa_cons (pv 3) (pa_cons (pv 7) (pa_cons (pv 5) pa_nil)))) (pa_cons (pe_tup (pa_cons (pv 7) (pa_cons (pv 2) (pa_cons (pv 6) pa_nil)))) (pa_cons (pe_tup (pa_cons (pv 6) (pa_cons (pv 5) (pa_cons (pv 7) pa_nil)))) pa_nil)))))))) (pss_one 
  (ps_ret (pe_callTy (T := "tuple") (r := rTup K) call_tuple_of (by rfl) nt (by decide +kernel) (pa_cons (pe_callB (cr_sortedT rfl) (by rfl) nso (by decide +kernel) (pa_cons (pe_callTy (cr_setOfT rfl hr.units) (by rfl) nse (by decide +kernel) (pa_cons (pv 8) pa_nil)) pa_nil)) pa_nil)))))))))), ?_⟩
      refine ⟨_, rfl, _, rfl, x, ns, _, Sh.tup xs, rfl, hT, ⟨pp, rfl, hp⟩, kn, fun H1 S1 => ⟨_, rfl, ?_⟩⟩
      cases e : threeB ns (.tup xs) with
      | false => exact iteT ⟨_, rfl, mkO_of ((k1 e).mono S1)⟩
      | true =>
        obtain ⟨p, q, r, rfl, ip, iq, ir⟩ := threeB_ints e
        refine iteF ?_
        refine ⟨_, rfl, pp, _, rfl, SqT.of (S1 _ _ hp), rfl, _, _, rfl, _, _, rfl, _, _, rfl, rfl, ?_⟩
        have hT1 := hT.keep S1
        obtain ⟨dx, t, hx, ht⟩ := id hT1
        have nl : (tf t (ns.length : Nat)).lookup ("back" : Str) = none := tf_no _ _ (by decide +kernel) (by decide +kernel)
        refine ⟨_, rfl, x, dx, _, rfl, hx, nl, _, rfl, x, ns, .int p, .sc (.int p), rfl, hT1, ⟨rfl, rfl⟩, fun jp bp e1 e2 => ?_, fun e => tie_no ip e⟩
        obtain rfl := bk_of ip e1 e2
        refine ⟨_, rfl, x, dx, _, rfl, hx, nl, _, rfl, x, ns, .int q, .sc (.int q), rfl, hT1, ⟨rfl, rfl⟩, fun jq bq e1 e2 => ?_, fun e => tie_no iq e⟩
        obtain rfl := bk_of iq e1 e2
        refine ⟨_, rfl, x, dx, _, rfl, hx, nl, _, rfl, x, ns, .int r, .sc (.int r), rfl, hT1, ⟨rfl, rfl⟩, fun jr br e1 e2 => ?_, fun e => tie_no ir e⟩
        obtain rfl := bk_of ir e1 e2
        refine ⟨_, rfl, _, rfl, _, rfl, (by show 3 ≤ sizeLine; decide), fun t1 ht1 => ?_⟩
        have W1 : Same H1 (upd H1 t1 (.tup [.int p, .int q, .int r])) := new_same ht1
        have f1 : (upd H1 t1 (.tup [.int p, .int q, .int r])) t1 = some (.tup [.int p, .int q, .int r]) := upd_same
        generalize upd H1 t1 (.tup [.int p, .int q, .int r]) = K1 at W1 f1
        refine ⟨_, rfl, _, rfl, _, rfl, (by show 3 ≤ sizeLine; decide), fun t2 ht2 => ?_⟩
        have W2 : Same K1 (upd K1 t2 (.tup [.int r, .int (bk ns q), .int p])) := new_same ht2
        have f2 : (upd K1 t2 (.tup [.int r, .int (bk ns q), .int p])) t2 = some (.tup [.int r, .int (bk ns q), .int p]) := upd_same
        generalize upd K1 t2 (.tup [.int r, .int (bk ns q), .int p]) = K2 at W2 f2
        refine ⟨_, rfl, _, rfl, _, rfl, (by show 3 ≤ sizeLine; decide), fun t3 ht3 => ?_⟩
        have W3 : Same K2 (upd K2 t3 (.tup [.int (bk ns p), .int r, .int q])) := new_same ht3
        have f3 : (upd K2 t3 (.tup [.int (bk ns p), .int r, .int q])) t3 = some (.tup [.int (bk ns p), .int r, .int q]) := upd_same
        generalize upd K2 t3 (.tup [.int (bk ns p), .int r, .int q]) = K3 at W3 f3
        refine ⟨_, rfl, _, rfl, _, rfl, (by show 3 ≤ sizeLine; decide), fun t4 ht4 => ?_⟩
        have W4 : Same K3 (upd K3 t4 (.tup [.int q, .int (bk ns r), .int (bk ns p)])) := new_same ht4
        have f4 : (upd K3 t4 (.tup [.int q, .int (bk ns r), .int (bk ns p)])) t4 = some (.tup [.int q, .int (bk ns r), .int (bk ns p)]) := upd_same
        generalize upd K3 t4 (.tup [.int q, .int (bk ns r), .int (bk ns p)]) = K4 at W4 f4
        refine ⟨_, rfl, _, rfl, _, rfl, (by show 3 ≤ sizeLine; decide), fun t5 ht5 => ?_⟩
        have W5 : Same K4 (upd K4 t5 (.tup [.int (bk ns r), .int p, .int (bk ns q)])) := new_same ht5
        have f5 : (upd K4 t5 (.tup [.int (bk ns r), .int p, .int (bk ns q)])) t5 = some (.tup [.int (bk ns r), .int p, .int (bk ns q)]) := upd_same
        generalize upd K4 t5 (.tup [.int (bk ns r), .int p, .int (bk ns q)]) = K5 at W5 f5
        refine ⟨_, rfl, _, rfl, _, rfl, (by show 3 ≤ sizeLine; decide), fun t6 ht6 => ?_⟩
        have W6 : Same K5 (upd K5 t6 (.tup [.int (bk ns q), .int (bk ns p), .int (bk ns r)])) := new_same ht6
        have f6 : (upd K5 t6 (.tup [.int (bk ns q), .int (bk ns p), .int (bk ns r)])) t6 = some (.tup [.int (bk ns q), .int (bk ns p), .int (bk ns r)]) := upd_same
        generalize upd K5 t6 (.tup [.int (bk ns q), .int (bk ns p), .int (bk ns r)]) = K6 at W6 f6
        refine ⟨(by show 6 ≤ sizeLine; decide), fun l hl => ?_⟩
        have W7 : Same K6 (upd K6 l (.lst [.ref t1, .ref t2, .ref t3, .ref t4, .ref t5, .ref t6])) := new_same hl
        have f7 : (upd K6 l (.lst [.ref t1, .ref t2, .ref t3, .ref t4, .ref t5, .ref t6])) l = some (.lst [.ref t1, .ref t2, .ref t3, .ref t4, .ref t5, .ref t6]) := upd_same
        generalize upd K6 l (.lst [.ref t1, .ref t2, .ref t3, .ref t4, .ref t5, .ref t6]) = K7 at W7 f7
        have V6 := W7
        have V5 := W6.trans V6
        have V4 := W5.trans V5
        have V3 := W4.trans V4
        have V2 := W3.trans V3
        have V1 := W2.trans V2
        have S7 : Same H K7 := (S1.trans W1).trans V1
        have hks : ∀ y ∈ ks6 ns p q r t1 t2 t3 t4 t5 t6, K7 y.1 = some (.tup (y.2.map V.int)) := fun y hy => by
          simp only [ks6, List.mem_cons, List.not_mem_nil, or_false] at hy
          rcases hy with rfl | rfl | rfl | rfl | rfl | rfl
          · exact V1 _ _ f1
          · exact V2 _ _ f2
          · exact V3 _ _ f3
          · exact V4 _ _ f4
          · exact V5 _ _ f5
          · exact V6 _ _ f6
        refine ⟨_, rfl, l, ks6 ns p q r t1 t2 t3 t4 t5 t6, rfl, SqL.of f7, fun y hy => SqT.of (hks y hy), (by show 6 < 64; decide), fun a L ha hL1 hL2 => ?_⟩
        have W8 : Same K7 (upd K7 a (SetTO P w a L)) := new_same ha
        have bd : ∀ y ∈ L, y.2.length = 3 ∧ TS.Bd 4 y.2 := fun y hy => six_bd gb ip iq ir _ (ks6_six (hL1 y hy))
        refine ⟨a, L, 3, 4, rfl, upd_same, fun y hy => SqT.of (W8 _ _ (hks y (hL1 y hy))), by decide, bd, fun L' z2 pm nd _ pw hz2 => ?_⟩
        have W9 : Same (upd K7 a (SetTO P w a L)) (upd (upd K7 a (SetTO P w a L)) z2 (.lst (L'.map fun q => V.ref q.1))) := new_same hz2
        have mem' : ∀ y ∈ L', y ∈ L := fun y hy => pm.mem_iff.mp hy
        refine ⟨z2, _, rfl, .inl ⟨SqL.of upd_same, fun z hz => ?_⟩⟩
        have W10 := new_same (o := .tup (L'.map fun q => V.ref q.1)) hz
        refine k2 p q r rfl ip iq ir _ z (L'.map (·.2)) (((S7.trans W8).trans W9).trans W10) (by
            have := same_free W9 hz
            exact same_free S7 (same_free W8 this)) ⟨L'.map (·.1), by rw [upd_same, List.map_map]; rfl, by rw [List.length_map, List.length_map], fun j a' ts e1 e2 => ?_⟩ ⟨?_, fun x => ⟨fun hx => ?_, fun hx => ?_⟩⟩
        · rw [List.getElem?_map] at e1 e2
          cases ej : L'[j]? with
          | none => rw [ej] at e1; cases e1
          | some y =>
            rw [ej] at e1 e2
            obtain rfl := Option.some.inj e1
            obtain rfl := Option.some.inj e2
            have my := mem' y (List.mem_of_getElem? ej)
            exact W10 _ _ (W9 _ _ (W8 _ _ (hks y (hL1 y my))))
        · rw [List.pairwise_map]
          have nd' : L'.Pairwise fun a b => a.2 ≠ b.2 := by
            have : (L'.map (·.2)).Pairwise (· ≠ ·) := nd
            rwa [List.pairwise_map] at this
          refine (pw.and nd').imp_of_mem fun {a b} ma mb h => ?_
          obtain ⟨h1, h2⟩ := h
          rcases Int.lt_or_eq_of_le h1 with h3 | h3
          · exact h3
          · obtain ⟨l1, b1⟩ := bd a (mem' a ma)
            obtain ⟨l2, b2⟩ := bd b (mem' b mb)
            exact absurd (code_inj (by omega) b1 b2 h3) h2
        · obtain ⟨y, hy, rfl⟩ := List.mem_map.mp hx
          exact ks6_six (hL1 y (mem' y hy))
        · obtain ⟨y, hy, rfl⟩ := six_ks6 (t1 := t1) (t2 := t2) (t3 := t3) (t4 := t4) (t5 := t5) (t6 := t6) hx
          obtain ⟨y', hy', e⟩ := List.mem_map.mp (hL2 y hy)
          exact List.mem_map.mpr ⟨y', pm.mem_iff.mpr hy', e⟩
theorem ok_least_reading {f C CT fR : Addr} {fd fdR : FuncData} (F : Fun K "least_reading" "least_reading" s_least_reading f fd) (GR : Cal P w K mg base (L2.CX P w) 4 "readings_of" fR fdR ["ties", "three"] (spReadings C CT)) :
    FnOk P w K mg base (L2.CX P w) 5 f fd ["ties", "three"] (spLeast C CT) := by
  refine F.okX sc_least_reading (fun vs H Q E h => ?_) (fun cdv A outer s H vs Q E hr h => ?_)
  · obtain ⟨x, ns, v, s, rfl, _⟩ := h
    rfl
  · obtain ⟨x, ns, v, s, rfl, hT, gb, hv, kn, k1, k2⟩ := h
    refine ⟨_, (pss_one 
  (ps_ret (pe_ix ix_tup (pcal GR hr (passes_call (takes_of rfl rfl rfl rfl) (fun _ _ _ _ h => h)) (pa_cons (pv 0) (pa_cons (pv 1) pa_nil))) pe_int (fun _ _ => rfl)))), ?_⟩
    refine ⟨_, rfl, _, rfl, x, ns, v, s, rfl, hT, gb, hv, kn, k1, fun p q r e ip iq ir H1 z L S1 nz TA R => ?_⟩
    cases L with
    | nil =>
      have : [p, q, r] ∈ ([] : List (List Int)) := (R.2 _).mpr (by simp [six])
      cases this
    | cons t L =>
      obtain ⟨ps, e1, e2, e3⟩ := TA
      obtain ⟨a, ps', rfl⟩ : ∃ a ps', ps = a :: ps' := match ps, e2 with | a :: ps', _ => ⟨a, ps', rfl⟩
      exact ⟨_, _, _, _, rfl, rfl, SqT.of e1, at_of (j := 0) (v := .ref a) rfl rfl, k2 p q r e ip iq ir H1 a t L S1 (e3 0 a t rfl rfl) R⟩
end
end J

set_option Elab.async false
set_option linter.all false
set_option maxRecDepth 100000
set_option maxHeartbeats 8000000
namespace J
open PySem PySem.Spec PyProof.Rows L2
/-! ### ranges in comprehensions of several clauses -/
theorem bFor_range {lo : Int} {n : Nat} {g : TG} {vs : List Nat} {σ : L2.St} {H0 : Hp} {body : TB} {Nx : Hp → Prop} (Pv : Nat → Hp → Prop) (h0 : Pv 0 H0)
    (hs : ∀ i H, i < n → Pv i H → g (.int (lo + i)) (wipe σ vs) H fun σ3 H5 => wipe σ3 vs = wipe σ vs ∧ body σ3 H5 (Pv (i + 1))) (hd : ∀ H, Pv n H → Nx H) :
    ∃ W : Nat → Nat → Hp → Prop, (∃ m, W 0 m H0) ∧ ∀ j k H, W j k H →
      ((Itr lo n).stop j H ∧ Nx H) ∨ ((Itr lo n).go j H ∧ ∃ N1 : Hp → Prop, (∀ H', N1 H' → ∃ k', k' < k ∧ W (j + 1) k' H') ∧ ∀ x H', (Itr lo n).yld j H x H' → g x (wipe σ vs) H' fun σ3 H5 => wipe σ3 vs = wipe σ vs ∧ body σ3 H5 N1) := by
  refine ⟨fun j k H => k + j = n ∧ Pv j H, ⟨n, rfl, h0⟩, fun j k H ⟨e, p⟩ => ?_⟩
  rcases Nat.lt_or_ge j n with c | c
  · exact .inr ⟨c, Pv (j + 1), fun H' p' => ⟨k - 1, by omega, by omega, p'⟩, fun x H' ⟨e1, e2⟩ => by subst e1 e2; exact hs j _ c p⟩
  · obtain rfl : j = n := by omega
    exact .inl ⟨c, hd H p⟩
/-! ### all threes -/
def A1 (p q k : Nat) : List (List Int) := (List.range k).map fun r : Nat => [(p : Int), (q : Int), ((r : Nat) : Int)]
def A2 (n p j : Nat) : List (List Int) := (List.range j).flatMap fun q => A1 p q n
def A3 (n i : Nat) : List (List Int) := (List.range i).flatMap fun p => A2 n p n
theorem A1_succ (p q k : Nat) : A1 p q (k + 1) = A1 p q k ++ [[(p : Int), (q : Int), (k : Int)]] := by
  unfold A1
  rw [List.range_succ, List.map_append]
  rfl
theorem A2_succ (n p j : Nat) : A2 n p (j + 1) = A2 n p j ++ A1 p j n := by
  unfold A2
  rw [List.range_succ, List.flatMap_append]
  simp
theorem A3_succ (n i : Nat) : A3 n (i + 1) = A3 n i ++ A2 n i n := by
  unfold A3
  rw [List.range_succ, List.flatMap_append]
  simp
theorem A_len : ∀ n, n ≤ 4 → ∀ i, i < n → ∀ j, j < n → ∀ k, k < n → (A3 n i ++ A2 n i j ++ A1 i j k).length ≤ 64 := by decide +kernel
theorem A3_len : ∀ n, n ≤ 4 → (A3 n n).length ≤ 64 := by decide +kernel
theorem A3_mem {n : Nat} {t : List Int} : t ∈ A3 n n ↔ ∃ p q r : Nat, p < n ∧ q < n ∧ r < n ∧ t = [(p : Int), (q : Int), (r : Int)] := by
  unfold A3 A2 A1
  simp only [List.mem_flatMap, List.mem_map, List.mem_range]
  constructor
  · rintro ⟨p, hp, q, hq, r, hr, rfl⟩
    exact ⟨p, q, r, hp, hq, hr, rfl⟩
  · rintro ⟨p, q, r, hp, hq, hr, rfl⟩
    exact ⟨p, hp, q, hq, r, hr, rfl⟩
/-- tuples that were put one behind another into the list at D -/
structure Gro (H1 H : Hp) (D : Addr) (L : List (List Int)) : Prop where
  S : Same H1 H
  n : H1 D = none
  d : ∃ ps : List Addr, H D = some (.lst (ps.map V.ref)) ∧ ps.length = L.length ∧ ∀ (j : Nat) (a : Addr) (ts : List Int), ps[j]? = some a → L[j]? = some ts → a ≠ D ∧ H a = some (.tup (ts.map V.int))
theorem Gro.nil {H1 : Hp} {D : Addr} (hD : H1 D = none) : Gro H1 (upd H1 D (.lst [])) D [] := ⟨new_same hD, hD, [], upd_same, rfl, fun j a ts e => by simp at e⟩
theorem Gro.snoc {H1 H : Hp} {D z : Addr} {L : List (List Int)} {ts : List Int} (G : Gro H1 H D L) (hz : H z = none) : ∃ acc, (upd H z (.tup (ts.map V.int))) D = some (.lst acc) ∧ acc.length = L.length ∧ Gro H1 (upd (upd H z (.tup (ts.map V.int))) D (.lst (acc ++ [.ref z]))) D (L ++ [ts]) := by
  obtain ⟨ps, e1, e2, e3⟩ := G.d
  have nz : z ≠ D := (ne_of_none e1 hz).symm
  refine ⟨ps.map V.ref, new_same hz _ _ e1, by rw [List.length_map, e2], fun b o e => ?_, G.n, ps ++ [z], by rw [upd_same, List.map_append]; rfl, by rw [List.length_append, List.length_append, e2]; rfl, fun j a us q1 q2 => ?_⟩
  · rw [upd_ne (ne_of_none e G.n), upd_ne (ne_of_none (G.S _ _ e) hz)]
    exact G.S _ _ e
  · rcases Nat.lt_or_ge j ps.length with hj | hj
    · rw [List.getElem?_append_left hj] at q1
      rw [List.getElem?_append_left (by omega)] at q2
      obtain ⟨w1, w2⟩ := e3 j a us q1 q2
      exact ⟨w1, by rw [upd_ne w1, upd_ne (ne_of_none w2 hz)]; exact w2⟩
    · have hj2 : j = ps.length := by
        have := (List.getElem?_eq_some_iff.mp q1).1
        rw [List.length_append] at this
        have l : [z].length = 1 := rfl
        omega
      subst hj2
      rw [List.getElem?_append_right (Nat.le_refl _), Nat.sub_self] at q1
      rw [e2, List.getElem?_append_right (Nat.le_refl _), Nat.sub_self] at q2
      obtain rfl : z = a := Option.some.inj q1
      obtain rfl : ts = us := Option.some.inj q2
      exact ⟨nz, by rw [upd_ne nz, upd_same]⟩
theorem Gro.tup {H1 H : Hp} {D z : Addr} {L : List (List Int)} {acc : List V} (G : Gro H1 H D L) (e : H D = some (.lst acc)) (hz : H z = none) : TupsAt (upd H z (.tup acc)) z L := by
  obtain ⟨ps, e1, e2, e3⟩ := G.d
  rw [e1] at e
  injection e with e
  injection e with e
  refine ⟨ps, by rw [upd_same, e], e2, fun j a ts q1 q2 => ?_⟩
  exact new_same hz _ _ (e3 j a ts q1 q2).2
def spAll (C : Addr) : Sp := fun vs H Q _ => ∃ (x : Addr) (ns : List Int), vs = [.ref x] ∧ TiesAt C H x ns ∧ GoodB ns ∧ ∀ (H' : Hp) (z : Addr), Same H H' → H z = none → TupsAt H' z (A3 ns.length ns.length) → Q (.ref z) H'
section
variable {P : Program} {w : World} {K : PySem.W.Frag} {mg : Str → Option Value} {base : Heap}
end
end J

set_option Elab.async false
set_option linter.all false
set_option maxRecDepth 100000
set_option maxHeartbeats 8000000
namespace J
open PySem PySem.Spec PyProof.Rows L2
/-! ### the classes of readings -/
def isL (ns : List Int) : List Int → Bool
  | [p, q, r] => (six ns p q r).all fun x => decide (TS.code 4 [p, q, r] ≤ TS.code 4 x)
  | _ => false
theorem isL_iff {ns : List Int} {p q r : Int} {t : List Int} {L : List (List Int)} (R : RdL ns p q r (t :: L)) : decide ([p, q, r] = t) = isL ns [p, q, r] := by
  obtain ⟨pw, mem⟩ := R
  have low := (List.pairwise_cons.mp pw).1
  have tm : t ∈ six ns p q r := (mem t).mp (List.mem_cons_self ..)
  have me : [p, q, r] ∈ t :: L := (mem _).mpr (by simp [six])
  have lo : ∀ x ∈ six ns p q r, TS.code 4 t ≤ TS.code 4 x := fun x hx => by
    rcases List.mem_cons.mp ((mem x).mpr hx) with e | e
    · rw [e]; exact Int.le_refl _
    · exact Int.le_of_lt (low x e)
  show decide ([p, q, r] = t) = (six ns p q r).all fun x => decide (TS.code 4 [p, q, r] ≤ TS.code 4 x)
  by_cases h : [p, q, r] = t
  · rw [decide_eq_true h, eq_comm, List.all_eq_true]
    exact fun x hx => decide_eq_true (by rw [h]; exact lo x hx)
  · rw [decide_eq_false h, eq_comm, List.all_eq_false]
    refine ⟨t, tm, fun z => ?_⟩
    have z := of_decide_eq_true z
    rcases List.mem_cons.mp me with e | e
    · exact h e
    · have := low _ e
      omega
theorem A3_in {n : Nat} {t : List Int} (h : t ∈ A3 n n) {ns : List Int} (e : ns.length = n) : ∃ p q r, t = [p, q, r] ∧ InT ns p ∧ InT ns q ∧ InT ns r := by
  obtain ⟨p, q, r, hp, hq, hr, rfl⟩ := A3_mem.mp h
  exact ⟨_, _, _, rfl, ⟨by omega, by omega⟩, ⟨by omega, by omega⟩, ⟨by omega, by omega⟩⟩
theorem ints_known {H : Hp} (ts : List Int) : Known H (ts.map V.int) := fun y hy => by
  obtain ⟨n, _, rfl⟩ := List.mem_map.mp hy
  exact ⟨.sc (.int n), rfl, rfl⟩
abbrev s_Lplain : Stmt := top 54
theorem sc_Lplain : FnScope ["_law_answer", "_law_due", "_law_one", "_law_other"] ["_law_answer", "_law_due"] (defScope s_Lplain) := ⟨rfl, rfl, rfl, by decide +kernel, rfl, by decide +kernel, by decide +kernel⟩
def spNo : Sp := fun _ _ _ _ => False
def spP0 : Sp := fun vs H Q _ => ((∃ n : Int, vs = [.int n, .int n]) ∨ ∃ b : Bool, vs = [.bl b, .bl b]) ∧ Q (.bl true) H
def spP1 : Sp := fun vs H Q _ => ∃ (a b : Addr) (ts : List Int), vs = [.ref a, .ref b] ∧ H a = some (.tup (ts.map V.int)) ∧ H b = some (.tup (ts.map V.int)) ∧ ∀ H', Same H H' → Q (.bl true) H'
def spP2 : Sp := fun vs H Q _ => ∃ (a b : Addr) (L : List (List Int)), vs = [.ref a, .ref b] ∧ TupsAt H a L ∧ TupsAt H b L ∧ ∀ H', Same H H' → Q (.bl true) H'
section
variable {P : Program} {w : World} {K : PySem.W.Frag} {mg : Str → Option Value} {base : Heap}
theorem fn_no {CX : CXT} {k : Nat} {f : Addr} {fd : FuncData} {ps : List Str} : FnOk P w K mg base CX k f fd ps spNo := ⟨fun _ _ _ _ h => h.elim, fun _ _ _ _ _ _ _ _ _ _ _ _ _ h => h.elim⟩
theorem ok_Lplain0 {f fP : Addr} {fd fdP : FuncData} (F : Fun K "_law_plain" "_law_plain" s_Lplain f fd) (nis : mg "isinstance" = none) (nt : mg "tuple" = none) (nl : mg "len" = none) (nz : mg "zip" = none) (nb : mg "bool" = none) (ni : mg "int" = none) (ns : mg "str" = none) (GP : Cal P w K mg base CX0 0 "_law_plain" fP fdP ["_law_answer", "_law_due"] spNo) : FnOk P w K mg base CX0 1 f fd ["_law_answer", "_law_due"] spP0 := by
  refine F.ok sc_Lplain (fun vs H Q E h => ?_) (fun cdv A outer s H vs Q E hr h => ?_)
  · obtain ⟨⟨n, rfl⟩ | ⟨b, rfl⟩, _⟩ := h <;> rfl
  · refine ⟨_, (pss_cons 
  (ps_if (pt_val (pe_callB call_isi (by rfl) nis (by decide +kernel) (pa_cons (pv 1) (pa_cons (pe_bltn (by rfl) nt (by decide +kernel) (v := .ty "tuple") rfl) pa_nil)))) (pss_cons 
    (ps_if (PW.pt (pw_or (pt_not (pt_val (pe_callB call_isi (by rfl) nis (by decide +kernel) (pa_cons (pv 0) (pa_cons (pe_bltn (by rfl) nt (by decide +kernel) (v := .ty "tuple") rfl) pa_nil))))) (pw_or1 (pt_cmpR op_ne (pe_callB call_len_seq (by rfl) nl PySem.boot_len (pa_cons (pv 0) pa_nil)) (pe_callB call_len_seq (by rfl) nl PySem.boot_len (pa_cons (pv 1) pa_nil)) (nomark _))))) (pss_one 
      (ps_ret pe_bl)) pss_nil) (pss_cons 
    (ps_for PassesOwn.never rfl (RZ.pi_zipA (by rfl) nz (pa_cons (pv 0) (pa_cons (pv 1) pa_nil))) (pg_tup (by rfl) (pgs_cons (pg_name (i := 2) sc_Lplain.nd rfl (Or.inl rfl)) (pgs_cons (pg_name (i := 3) sc_Lplain.nd rfl (Or.inl rfl)) pgs_nil))) (pss_one 
      (ps_if (pt_not (pt_val (pcal GP hr pass0 (pa_cons (pv 2) (pa_cons (pv 3) pa_nil))))) (pss_one 
        (ps_ret pe_bl)) pss_nil))) (pss_one 
    (ps_ret pe_bl)))) pss_nil) (pss_cons 
  (ps_if (pt_cmpR op_isN (pv 1) pe_non (nomark _)) (pss_one 
    (ps_ret (pe_cmpR op_isN (pv 0) pe_non (nomark _)))) pss_nil) (pss_cons 
  (ps_if (PW.pt (pw_or (pt_val (pe_callB call_isi (by rfl) nis (by decide +kernel) (pa_cons (pv 1) (pa_cons (pe_bltn (by rfl) nb (by decide +kernel) (v := .ty "bool") rfl) pa_nil)))) (pw_or1 (pt_val (pe_callB call_isi (by rfl) nis (by decide +kernel) (pa_cons (pv 0) (pa_cons (pe_bltn (by rfl) nb (by decide +kernel) (v := .ty "bool") rfl) pa_nil))))))) (pss_one 
    (ps_ret (pe_and (pe_callB call_isi (by rfl) nis (by decide +kernel) (pa_cons (pv 1) (pa_cons (pe_bltn (by rfl) nb (by decide +kernel) (v := .ty "bool") rfl) pa_nil))) (pe_and (pe_callB call_isi (by rfl) nis (by decide +kernel) (pa_cons (pv 0) (pa_cons (pe_bltn (by rfl) nb (by decide +kernel) (v := .ty "bool") rfl) pa_nil))) (pe_one (pe_cmpR op_eq (pv 0) (pv 1) (nomark _))))))) pss_nil) (pss_cons 
  (ps_if (pt_val (pe_callB call_isi (by rfl) nis (by decide +kernel) (pa_cons (pv 1) (pa_cons (pe_bltn (by rfl) ni (by decide +kernel) (v := .ty "int") rfl) pa_nil)))) (pss_one 
    (ps_ret (pe_and (pe_callB call_isi (by rfl) nis (by decide +kernel) (pa_cons (pv 0) (pa_cons (pe_bltn (by rfl) ni (by decide +kernel) (v := .ty "int") rfl) pa_nil))) (pe_one (pe_cmpR op_eq (pv 0) (pv 1) (nomark _)))))) pss_nil) (pss_one 
  (ps_ret (pe_and (pe_callB call_isi (by rfl) nis (by decide +kernel) (pa_cons (pv 0) (pa_cons (pe_bltn (by rfl) ns (by decide +kernel) (v := .ty "str") rfl) pa_nil))) (pe_one (pe_cmpR op_eq (pv 0) (pv 1) (nomark _)))))))))), ?_⟩
    obtain ⟨⟨n, rfl⟩ | ⟨b, rfl⟩, k⟩ := h
    · refine ⟨_, rfl, _, _, _, _, false, rfl, .ty "tuple", .base (.int n), kit_ty kt_int_tuple, _, rfl, iteF ?_⟩
      refine ⟨_, rfl, rfl, _, rfl, if_fa (by simp) ?_⟩
      refine ⟨_, rfl, _, _, _, _, false, rfl, .ty "bool", .base (.int n), kit_ty kt_int_bool, _, rfl, iteF ?_⟩
      refine ⟨_, rfl, _, _, _, _, false, rfl, .ty "bool", .base (.int n), kit_ty kt_int_bool, _, rfl, iteF ?_⟩
      refine ⟨_, rfl, _, _, _, _, true, rfl, .ty "int", .base (.int n), kit_ty kt_int_int, _, rfl, iteT ?_⟩
      refine ⟨_, rfl, _, _, _, _, true, rfl, .ty "int", .base (.int n), kit_ty kt_int_int, _, rfl, if_tr rfl ⟨_, rfl, _, rfl, rfl, ?_⟩⟩
      rw [decide_eq_true rfl]
      exact k
    · refine ⟨_, rfl, _, _, _, _, false, rfl, .ty "tuple", .base (.bl b), kit_ty kt_bool_tuple, _, rfl, iteF ?_⟩
      refine ⟨_, rfl, rfl, _, rfl, if_fa (by simp) ?_⟩
      refine ⟨_, rfl, _, _, _, _, true, rfl, .ty "bool", .base (.bl b), kit_ty kt_bool_bool, _, rfl, iteT ?_⟩
      refine ⟨_, rfl, _, _, _, _, true, rfl, .ty "bool", .base (.bl b), kit_ty kt_bool_bool, _, rfl, if_tr rfl ?_⟩
      refine ⟨_, rfl, _, _, _, _, true, rfl, .ty "bool", .base (.bl b), kit_ty kt_bool_bool, _, rfl, if_tr rfl ⟨_, rfl, _, rfl, rfl, ?_⟩⟩
      rw [decide_eq_true rfl]
      exact k
theorem ok_Lplain1 {f fP : Addr} {fd fdP : FuncData} (F : Fun K "_law_plain" "_law_plain" s_Lplain f fd) (nis : mg "isinstance" = none) (nt : mg "tuple" = none) (nl : mg "len" = none) (nz : mg "zip" = none) (nb : mg "bool" = none) (ni : mg "int" = none) (ns : mg "str" = none) (GP : Cal P w K mg base CX0 1 "_law_plain" fP fdP ["_law_answer", "_law_due"] spP0) : FnOk P w K mg base CX0 2 f fd ["_law_answer", "_law_due"] spP1 := by
  refine F.ok sc_Lplain (fun vs H Q E h => ?_) (fun cdv A outer s H vs Q E hr h => ?_)
  · obtain ⟨a, b, ts, rfl, _⟩ := h
    rfl
  · refine ⟨_, (pss_cons 
  (ps_if (pt_val (pe_callB call_isi (by rfl) nis (by decide +kernel) (pa_cons (pv 1) (pa_cons (pe_bltn (by rfl) nt (by decide +kernel) (v := .ty "tuple") rfl) pa_nil)))) (pss_cons 
    (ps_if (PW.pt (pw_or (pt_not (pt_val (pe_callB call_isi (by rfl) nis (by decide +kernel) (pa_cons (pv 0) (pa_cons (pe_bltn (by rfl) nt (by decide +kernel) (v := .ty "tuple") rfl) pa_nil))))) (pw_or1 (pt_cmpR op_ne (pe_callB call_len_seq (by rfl) nl PySem.boot_len (pa_cons (pv 0) pa_nil)) (pe_callB call_len_seq (by rfl) nl PySem.boot_len (pa_cons (pv 1) pa_nil)) (nomark _))))) (pss_one 
      (ps_ret pe_bl)) pss_nil) (pss_cons 
    (ps_for PassesOwn.never rfl (RZ.pi_zipA (by rfl) nz (pa_cons (pv 0) (pa_cons (pv 1) pa_nil))) (pg_tup (by rfl) (pgs_cons (pg_name (i := 2) sc_Lplain.nd rfl (Or.inl rfl)) (pgs_cons (pg_name (i := 3) sc_Lplain.nd rfl (Or.inl rfl)) pgs_nil))) (pss_one 
      (ps_if (pt_not (pt_val (pcal GP hr pass0 (pa_cons (pv 2) (pa_cons (pv 3) pa_nil))))) (pss_one 
        (ps_ret pe_bl)) pss_nil))) (pss_one 
    (ps_ret pe_bl)))) pss_nil) (pss_cons 
  (ps_if (pt_cmpR op_isN (pv 1) pe_non (nomark _)) (pss_one 
    (ps_ret (pe_cmpR op_isN (pv 0) pe_non (nomark _)))) pss_nil) (pss_cons 
  (ps_if (PW.pt (pw_or (pt_val (pe_callB call_isi (by rfl) nis (by decide +kernel) (pa_cons (pv 1) (pa_cons (pe_bltn (by rfl) nb (by decide +kernel) (v := .ty "bool") rfl) pa_nil)))) (pw_or1 (pt_val (pe_callB call_isi (by rfl) nis (by decide +kernel) (pa_cons (pv 0) (pa_cons (pe_bltn (by rfl) nb (by decide +kernel) (v := .ty "bool") rfl) pa_nil))))))) (pss_one 
    (ps_ret (pe_and (pe_callB call_isi (by rfl) nis (by decide +kernel) (pa_cons (pv 1) (pa_cons (pe_bltn (by rfl) nb (by decide +kernel) (v := .ty "bool") rfl) pa_nil))) (pe_and (pe_callB call_isi (by rfl) nis (by decide +kernel) (pa_cons (pv 0) (pa_cons (pe_bltn (by rfl) nb (by decide +kernel) (v := .ty "bool") rfl) pa_nil))) (pe_one (pe_cmpR op_eq (pv 0) (pv 1) (nomark _))))))) pss_nil) (pss_cons 
  (ps_if (pt_val (pe_callB call_isi (by rfl) nis (by decide +kernel) (pa_cons (pv 1) (pa_cons (pe_bltn (by rfl) ni (by decide +kernel) (v := .ty "int") rfl) pa_nil)))) (pss_one 
    (ps_ret (pe_and (pe_callB call_isi (by rfl) nis (by decide +kernel) (pa_cons (pv 0) (pa_cons (pe_bltn (by rfl) ni (by decide +kernel) (v := .ty "int") rfl) pa_nil))) (pe_one (pe_cmpR op_eq (pv 0) (pv 1) (nomark _)))))) pss_nil) (pss_one 
  (ps_ret (pe_and (pe_callB call_isi (by rfl) nis (by decide +kernel) (pa_cons (pv 0) (pa_cons (pe_bltn (by rfl) ns (by decide +kernel) (v := .ty "str") rfl) pa_nil))) (pe_one (pe_cmpR op_eq (pv 0) (pv 1) (nomark _)))))))))), ?_⟩
    obtain ⟨a, b, ts, rfl, ea, eb, k⟩ := h
    refine ⟨_, rfl, _, _, _, _, true, rfl, .ty "tuple", .base (.tup eb), kit_ty kt_tuple_tuple, _, rfl, iteT ?_⟩
    refine ⟨_, rfl, _, _, _, _, true, rfl, .ty "tuple", .base (.tup ea), kit_ty kt_tuple_tuple, _, rfl, iteF ?_⟩
    refine ⟨_, rfl, a, _, rfl, .inr (SqT.of ea), _, rfl, b, _, rfl, .inr (SqT.of eb), rfl, _, rfl, if_fa (by simp) ?_⟩
    refine ⟨_, rfl, _, rfl, a, b, _, _, rfl, .inr ⟨SqT.of ea, SqT.of eb, RZ.for_zipT (K := K) rfl (fun i σ H' => ∃ v2 v3 : Option V, σ = [some (.ref a), some (.ref b), v2, v3] ∧ Same H H') ⟨none, none, rfl, Same.refl _⟩ (fun i σ H' ⟨_, _, _, S⟩ => ⟨SqT.of (S _ _ ea), SqT.of (S _ _ eb)⟩) ?_ ?_⟩⟩
    · rintro i x y T σ H' hx hy ⟨v2, v3, rfl, S⟩ hT
      rw [hx] at hy
      obtain rfl := Option.some.inj hy
      rw [List.getElem?_map] at hx
      cases et : ts[i]? with
      | none => rw [et] at hx; cases hx
      | some n =>
        rw [et] at hx
        obtain rfl := Option.some.inj hx
        refine ⟨T, _, rfl, SqT.of upd_same, rfl, _, _, rfl, _, _, rfl, rfl, ?_⟩
        exact ⟨_, rfl, _, rfl, .inl ⟨n, rfl⟩, _, rfl, iteF ⟨_, _, rfl, S.trans (new_same hT)⟩⟩
    · rintro σ H' ⟨v2, v3, rfl, S⟩
      exact k _ S
theorem ok_Lplain2 {f fP : Addr} {fd fdP : FuncData} (F : Fun K "_law_plain" "_law_plain" s_Lplain f fd) (nis : mg "isinstance" = none) (nt : mg "tuple" = none) (nl : mg "len" = none) (nz : mg "zip" = none) (nb : mg "bool" = none) (ni : mg "int" = none) (ns : mg "str" = none) (GP : Cal P w K mg base CX0 2 "_law_plain" fP fdP ["_law_answer", "_law_due"] spP1) : FnOk P w K mg base CX0 3 f fd ["_law_answer", "_law_due"] spP2 := by
  refine F.ok sc_Lplain (fun vs H Q E h => ?_) (fun cdv A outer s H vs Q E hr h => ?_)
  · obtain ⟨a, b, L, rfl, _⟩ := h
    rfl
  · refine ⟨_, (pss_cons 
  (ps_if (pt_val (pe_callB call_isi (by rfl) nis (by decide +kernel) (pa_cons (pv 1) (pa_cons (pe_bltn (by rfl) nt (by decide +kernel) (v := .ty "tuple") rfl) pa_nil)))) (pss_cons 
    (ps_if (PW.pt (pw_or (pt_not (pt_val (pe_callB call_isi (by rfl) nis (by decide +kernel) (pa_cons (pv 0) (pa_cons (pe_bltn (by rfl) nt (by decide +kernel) (v := .ty "tuple") rfl) pa_nil))))) (pw_or1 (pt_cmpR op_ne (pe_callB call_len_seq (by rfl) nl PySem.boot_len (pa_cons (pv 0) pa_nil)) (pe_callB call_len_seq (by rfl) nl PySem.boot_len (pa_cons (pv 1) pa_nil)) (nomark _))))) (pss_one 
      (ps_ret pe_bl)) pss_nil) (pss_cons 
    (ps_for PassesOwn.never rfl (RZ.pi_zipA (by rfl) nz (pa_cons (pv 0) (pa_cons (pv 1) pa_nil))) (pg_tup (by rfl) (pgs_cons (pg_name (i := 2) sc_Lplain.nd rfl (Or.inl rfl)) (pgs_cons (pg_name (i := 3) sc_Lplain.nd rfl (Or.inl rfl)) pgs_nil))) (pss_one 
      (ps_if (pt_not (pt_val (pcal GP hr pass0 (pa_cons (pv 2) (pa_cons (pv 3) pa_nil))))) (pss_one 
        (ps_ret pe_bl)) pss_nil))) (pss_one 
    (ps_ret pe_bl)))) pss_nil) (pss_cons 
  (ps_if (pt_cmpR op_isN (pv 1) pe_non (nomark _)) (pss_one 
    (ps_ret (pe_cmpR op_isN (pv 0) pe_non (nomark _)))) pss_nil) (pss_cons 
  (ps_if (PW.pt (pw_or (pt_val (pe_callB call_isi (by rfl) nis (by decide +kernel) (pa_cons (pv 1) (pa_cons (pe_bltn (by rfl) nb (by decide +kernel) (v := .ty "bool") rfl) pa_nil)))) (pw_or1 (pt_val (pe_callB call_isi (by rfl) nis (by decide +kernel) (pa_cons (pv 0) (pa_cons (pe_bltn (by rfl) nb (by decide +kernel) (v := .ty "bool") rfl) pa_nil))))))) (pss_one 
    (ps_ret (pe_and (pe_callB call_isi (by rfl) nis (by decide +kernel) (pa_cons (pv 1) (pa_cons (pe_bltn (by rfl) nb (by decide +kernel) (v := .ty "bool") rfl) pa_nil))) (pe_and (pe_callB call_isi (by rfl) nis (by decide +kernel) (pa_cons (pv 0) (pa_cons (pe_bltn (by rfl) nb (by decide +kernel) (v := .ty "bool") rfl) pa_nil))) (pe_one (pe_cmpR op_eq (pv 0) (pv 1) (nomark _))))))) pss_nil) (pss_cons 
  (ps_if (pt_val (pe_callB call_isi (by rfl) nis (by decide +kernel) (pa_cons (pv 1) (pa_cons (pe_bltn (by rfl) ni (by decide +kernel) (v := .ty "int") rfl) pa_nil)))) (pss_one 
    (ps_ret (pe_and (pe_callB call_isi (by rfl) nis (by decide +kernel) (pa_cons (pv 0) (pa_cons (pe_bltn (by rfl) ni (by decide +kernel) (v := .ty "int") rfl) pa_nil))) (pe_one (pe_cmpR op_eq (pv 0) (pv 1) (nomark _)))))) pss_nil) (pss_one 
  (ps_ret (pe_and (pe_callB call_isi (by rfl) nis (by decide +kernel) (pa_cons (pv 0) (pa_cons (pe_bltn (by rfl) ns (by decide +kernel) (v := .ty "str") rfl) pa_nil))) (pe_one (pe_cmpR op_eq (pv 0) (pv 1) (nomark _)))))))))), ?_⟩
    obtain ⟨a, b, L, rfl, ⟨ps, ea, la, ha⟩, ⟨qs, eb, lb, hb⟩, k⟩ := h
    have ll : (ps.map V.ref).length = (qs.map V.ref).length := by rw [List.length_map, List.length_map, la, lb]
    refine ⟨_, rfl, _, _, _, _, true, rfl, .ty "tuple", .base (.tup eb), kit_ty kt_tuple_tuple, _, rfl, iteT ?_⟩
    refine ⟨_, rfl, _, _, _, _, true, rfl, .ty "tuple", .base (.tup ea), kit_ty kt_tuple_tuple, _, rfl, iteF ?_⟩
    refine ⟨_, rfl, a, _, rfl, .inr (SqT.of ea), _, rfl, b, _, rfl, .inr (SqT.of eb), rfl, _, rfl, if_fa (by rw [ll]; simp) ?_⟩
    refine ⟨_, rfl, _, rfl, a, b, _, _, rfl, .inr ⟨SqT.of ea, SqT.of eb, RZ.for_zipT (K := K) ll (fun i σ H' => ∃ v2 v3 : Option V, σ = [some (.ref a), some (.ref b), v2, v3] ∧ Same H H') ⟨none, none, rfl, Same.refl _⟩ (fun i σ H' ⟨_, _, _, S⟩ => ⟨SqT.of (S _ _ ea), SqT.of (S _ _ eb)⟩) ?_ ?_⟩⟩
    · rintro i x y T σ H' hx hy ⟨v2, v3, rfl, S⟩ hT
      rw [List.getElem?_map] at hx hy
      have hi : i < ps.length := by
        cases e : ps[i]? with
        | none => rw [e] at hx; cases hx
        | some _ => exact (List.getElem?_eq_some_iff.mp e).1
      have e1 := List.getElem?_eq_getElem hi
      have e2 := List.getElem?_eq_getElem (l := qs) (i := i) (by omega)
      have e3 := List.getElem?_eq_getElem (l := L) (i := i) (by omega)
      rw [e1] at hx
      rw [e2] at hy
      obtain rfl := Option.some.inj hx
      obtain rfl := Option.some.inj hy
      have S' := S.trans (new_same (o := .tup [.ref ps[i], .ref qs[i]]) hT)
      refine ⟨T, _, rfl, SqT.of upd_same, rfl, _, _, rfl, _, _, rfl, rfl, ?_⟩
      exact ⟨_, rfl, _, rfl, _, _, L[i], rfl, S' _ _ (ha i _ _ e1 e3), S' _ _ (hb i _ _ e2 e3), fun H2 S2 => ⟨_, rfl, iteF ⟨_, _, rfl, S'.trans S2⟩⟩⟩
    · rintro σ H' ⟨v2, v3, rfl, S⟩
      exact k _ S
end
end J

set_option Elab.async false
set_option linter.all false
set_option maxRecDepth 100000
set_option maxHeartbeats 8000000
namespace J
open PySem PySem.Spec PyProof.Rows L2
abbrev s_Lpick : Stmt := top 41
theorem sc_Lpick : FnScope ["_law_hand_here", "_law_things"] ["_law_hand_here", "_law_things"] (defScope s_Lpick) := ⟨rfl, rfl, rfl, by decide +kernel, rfl, by decide +kernel, by decide +kernel⟩
def spPick : Sp := fun vs H Q _ => ∃ (h q l : Addr) (xs : List V), vs = [.ref h, .ref l] ∧ Hand H h q ∧ l ≠ h ∧ H l = some (.lst xs) ∧ 0 < xs.length ∧ xs.length ≤ 1000 ∧ ∀ (H' : Hp) (y : V), y ∈ xs → But h H H' → Hand H' h q → Q y H'

def addAll (L : List (List Int)) : List (List Int) → List (List Int)
  | [] => L
  | t :: ts => addAll (if t ∈ L then L else L ++ [t]) ts
theorem addAll_snoc : ∀ {ts : List (List Int)} {L : List (List Int)} {t : List Int}, addAll L (ts ++ [t]) = if t ∈ addAll L ts then addAll L ts else addAll L ts ++ [t]
  | [], L, t => rfl
  | x :: ts, L, t => addAll_snoc (ts := ts)
theorem addAll_len : ∀ {ts L : List (List Int)}, (addAll L ts).length ≤ L.length + ts.length
  | [], L => by simp [addAll]
  | t :: ts, L => by
    have h := addAll_len (ts := ts) (L := if t ∈ L then L else L ++ [t])
    show (addAll (if t ∈ L then L else L ++ [t]) ts).length ≤ _
    rw [List.length_cons]
    split at h
    · rename_i c; rw [if_pos c]; omega
    · rename_i c; rw [if_neg c]; rw [List.length_append] at h; simp at h; omega
theorem addAll_mem : ∀ {ts L : List (List Int)} {x : List Int}, x ∈ addAll L ts ↔ x ∈ L ∨ x ∈ ts
  | [], L, x => by simp [addAll]
  | t :: ts, L, x => by
    show x ∈ addAll (if t ∈ L then L else L ++ [t]) ts ↔ _
    rw [addAll_mem, List.mem_cons]
    by_cases c : t ∈ L
    · rw [if_pos c]
      constructor
      · rintro (h | h) <;> simp [h]
      · rintro (h | h | h)
        · exact .inl h
        · exact .inl (h ▸ c)
        · exact .inr h
    · rw [if_neg c, List.mem_append, List.mem_singleton, or_assoc]
theorem addAll_nodup : ∀ {ts L : List (List Int)}, L.Nodup → (addAll L ts).Nodup
  | [], L, h => h
  | t :: ts, L, h => by
    show (addAll (if t ∈ L then L else L ++ [t]) ts).Nodup
    refine addAll_nodup ?_
    by_cases c : t ∈ L
    · rw [if_pos c]; exact h
    · rw [if_neg c, List.nodup_append]
      exact ⟨h, by simp, fun a ha b hb => by rw [List.mem_singleton] at hb; subst hb; exact fun e => c (e ▸ ha)⟩
theorem units65 {k : Nat} {A : Around} (r : Room k A) : A.units + 65 < cLine := by have := r.un; omega
theorem perm_map_inv {α β : Type} {f : α → β} : ∀ {ys ws : List β}, ys.Perm ws → ∀ {zs : List α}, ws = zs.map f → ∃ zs' : List α, zs'.Perm zs ∧ ys = zs'.map f := by
  intro ys ws h
  induction h with
  | nil => intro zs e; exact ⟨[], by rw [List.eq_nil_of_map_eq_nil e.symm], rfl⟩
  | cons x h ih =>
    intro zs e
    cases zs with
    | nil => cases e
    | cons z zs =>
      rw [List.map_cons] at e
      injection e with e1 e2
      obtain ⟨zs', p, q⟩ := ih e2
      exact ⟨z :: zs', p.cons z, by rw [List.map_cons, e1, q]⟩
  | swap x y l =>
    intro zs e
    match zs, e with
    | a :: b :: r, e =>
      rw [List.map_cons, List.map_cons] at e
      injection e with e1 e2
      injection e2 with e2 e3
      exact ⟨b :: a :: r, List.Perm.swap a b r, by rw [List.map_cons, List.map_cons, e1, e2, e3]⟩
  | trans h1 h2 ih1 ih2 =>
    intro zs e
    obtain ⟨zs', p, q⟩ := ih2 e
    obtain ⟨zs2, p2, q2⟩ := ih1 q
    exact ⟨zs2, p2.trans p, q2⟩
theorem Gro.keep {H1 H H' : Hp} {D : Addr} {L : List (List Int)} (G : Gro H1 H D L) (S : Same H H') : Gro H1 H' D L := by
  obtain ⟨ps, e1, e2, e3⟩ := G.d
  exact ⟨G.S.trans S, G.n, ps, S _ _ e1, e2, fun j a ts q1 q2 => ⟨(e3 j a ts q1 q2).1, S _ _ (e3 j a ts q1 q2).2⟩⟩
theorem Gro.app {H1 H : Hp} {D z : Addr} {L : List (List Int)} {ts : List Int} (G : Gro H1 H D L) (ez : H z = some (.tup (ts.map V.int))) : ∃ acc, H D = some (.lst acc) ∧ acc.length = L.length ∧ Gro H1 (upd H D (.lst (acc ++ [.ref z]))) D (L ++ [ts]) := by
  obtain ⟨ps, e1, e2, e3⟩ := G.d
  have nz : z ≠ D := ne_of ez e1 (by intro z; cases z)
  refine ⟨ps.map V.ref, e1, by rw [List.length_map, e2], fun b o e => ?_, G.n, ps ++ [z], by rw [upd_same, List.map_append]; rfl, by rw [List.length_append, List.length_append, e2]; rfl, fun j a us q1 q2 => ?_⟩
  · rw [upd_ne (ne_of_none e G.n)]
    exact G.S _ _ e
  · rcases Nat.lt_or_ge j ps.length with hj | hj
    · rw [List.getElem?_append_left hj] at q1
      rw [List.getElem?_append_left (by omega)] at q2
      obtain ⟨w1, w2⟩ := e3 j a us q1 q2
      exact ⟨w1, by rw [upd_ne w1]; exact w2⟩
    · have hj2 : j = ps.length := by
        have := (List.getElem?_eq_some_iff.mp q1).1
        rw [List.length_append] at this
        have l : [z].length = 1 := rfl
        omega
      subst hj2
      rw [List.getElem?_append_right (Nat.le_refl _), Nat.sub_self] at q1
      rw [e2, List.getElem?_append_right (Nat.le_refl _), Nat.sub_self] at q2
      obtain rfl : z = a := Option.some.inj q1
      obtain rfl : ts = us := Option.some.inj q2
      exact ⟨nz, by rw [upd_ne nz]; exact ez⟩
/-- lists of tuples as data -/
def tupsD (L : List (List Int)) : List PyData := L.map fun ts => .tuple (ts.map PyData.int)
theorem lay_tupsD : ∀ L : List (List Int), PyData.canLayAll0 (tupsD L) = true ∧ PyData.depthAll (tupsD L) ≤ 2
  | [] => by simp [tupsD, PyData.canLayAll0, PyData.depthAll]
  | t :: ts => by
    obtain ⟨a, b⟩ := lay_tupsD ts
    have h1 := ints_lay t
    have h2 := ints_depth t
    refine ⟨?_, ?_⟩
    · show (PyData.canLay0 (.tuple (t.map PyData.int)) && PyData.canLayAll0 (tupsD ts)) = true
      rw [a, Bool.and_true]
      simp only [PyData.canLay0]
      exact h1
    · show max (PyData.depth (.tuple (t.map PyData.int))) (PyData.depthAll (tupsD ts)) ≤ 2
      simp only [PyData.depth]
      omega
theorem shaped_tupsD (L : List (List Int)) : SeqAt.shaped (.list (tupsD L)) = true := by
  obtain ⟨a, b⟩ := lay_tupsD L
  show (PyData.canLay0 (.list (tupsD L)) && decide (PyData.depth (.list (tupsD L)) ≤ 64)) = true
  rw [Bool.and_eq_true]
  refine ⟨by simp only [PyData.canLay0]; exact a, decide_eq_true ?_⟩
  simp only [PyData.depth]
  omega
theorem dp_tupsD {K : PySem.W.Frag} {H : Hp} : ∀ {ps : List Addr} {L : List (List Int)}, ps.length = L.length → (∀ (j : Nat) (a : Addr) (ts : List Int), ps[j]? = some a → L[j]? = some ts → H a = some (.tup (ts.map V.int))) → DpAll K H (ps.map V.ref) (tupsD L)
  | [], [], _, _ => .nil
  | [], _ :: _, h, _ => by cases h
  | _ :: _, [], h, _ => by cases h
  | p :: ps, t :: ts, h, f => .cons (.tup (SqT.of (f 0 p t rfl rfl)) (dp_ints t)) (dp_tupsD (Nat.succ.inj h) fun j a b e1 e2 => f (j + 1) a b (by simpa using e1) (by simpa using e2))
theorem Gro.data {K : PySem.W.Frag} {H1 H : Hp} {D : Addr} {L : List (List Int)} (G : Gro H1 H D L) : Dp K H (.ref D) (.list (tupsD L)) ∧ SeqAt.shaped (.list (tupsD L)) = true := by
  obtain ⟨ps, e1, e2, e3⟩ := G.d
  exact ⟨.lst (SqL.of e1) (dp_tupsD e2 fun j a ts q1 q2 => (e3 j a ts q1 q2).2), shaped_tupsD L⟩
theorem any_tup {t : List Int} : ∀ {L : List (List Int)}, ((tupsD L).any fun z => PyData.eqv z (.tuple (t.map PyData.int))) = decide (t ∈ L)
  | [] => by simp [tupsD]
  | u :: L => by
    have ih := any_tup (t := t) (L := L)
    show (PyData.eqv (.tuple (u.map PyData.int)) (.tuple (t.map PyData.int)) || (tupsD L).any fun z => PyData.eqv z (.tuple (t.map PyData.int))) = _
    rw [eqv_ti, ih]
    by_cases h : u = t
    · simp [h]
    · have h' : ¬ t = u := fun e => h e.symm
      simp [h, h']
def LstsAt (H : Hp) (z : Addr) (L : List (List Int)) : Prop := ∃ ps : List Addr, H z = some (.lst (ps.map V.ref)) ∧ ps.length = L.length ∧ ∀ (j : Nat) (a : Addr) (ts : List Int), ps[j]? = some a → L[j]? = some ts → H a = some (.tup (ts.map V.int))
theorem LstsAt.keep {H H' : Hp} {z : Addr} {L : List (List Int)} (h : LstsAt H z L) (S : Same H H') : LstsAt H' z L := by
  obtain ⟨ps, a, b, c⟩ := h
  exact ⟨ps, S _ _ a, b, fun j x ts e1 e2 => S _ _ (c j x ts e1 e2)⟩
abbrev s_Lshape : Stmt := top 55
theorem sc_Lshape : FnScope ["_law_hand_here", "_law_row"] ["_law_hand_here", "_law_row"] (defScope s_Lshape) := ⟨rfl, rfl, rfl, by decide +kernel, rfl, by decide +kernel, by decide +kernel⟩
def spShape : Sp := fun vs H Q _ => ∃ (h q t : Addr) (ts : List Int), vs = [.ref h, .ref t] ∧ Hand H h q ∧ H t = some (.tup (ts.map V.int)) ∧ ∀ (H' : Hp) (z : Addr) (s : Sh), But h H H' → Hand H' h q → Is H' (.ref z) s → items s = ts.map V.int → (s.isL || s.isT) = true → z ≠ h → Q (.ref z) H'
section
variable {P : Program} {w : World} {K : PySem.W.Frag} {mg : Str → Option Value} {base : Heap}
theorem ok_Lpick {f fD : Addr} {fd fdD : FuncData} (F : Fun K "_law_pick" "_law_pick" s_Lpick f fd) (nl : mg "len" = none) (GD : Cal P w K mg base CX0 2 "_law_draw" fD fdD ["_law_hand_here", "_law_many"] spDraw) : FnOk P w K mg base CX0 3 f fd ["_law_hand_here", "_law_things"] spPick := by
  refine F.ok sc_Lpick (fun vs H Q E h => ?_) (fun cdv A outer s H vs Q E hr h => ?_)
  · obtain ⟨h, q, l, xs, rfl, _⟩ := h
    rfl
  · obtain ⟨h, q, l, xs, rfl, hh, nlh, el, g0, g1, k⟩ := h
    refine ⟨_, (pss_one (ps_ret (pe_ix ix_list (pv 1) (pcal GD hr pass0 (pa_cons (pv 0) (pa_cons (pe_callB call_len_seq (by rfl) nl PySem.boot_len (pa_cons (pv 1) pa_nil)) pa_nil))) (fun _ _ => rfl)))), ?_⟩
    refine ⟨_, rfl, _, rfl, _, rfl, l, xs, rfl, .inl (SqL.of el), h, q, _, rfl, by omega, by omega, hh, fun v H1 v0 v1 b1 h1 => ?_⟩
    have hv : v.toNat < xs.length := by omega
    exact ⟨l, xs, v, xs[v.toNat], rfl, rfl, SqL.of (b1 _ _ nlh el), at_of (j := v.toNat) (by omega) (List.getElem?_eq_getElem hv), k H1 _ (List.getElem_mem hv) b1 h1⟩

theorem ok_Lshape {f fD : Addr} {fd fdD : FuncData} (F : Fun K "_law_shape" "_law_shape" s_Lshape f fd) (nli : mg "list" = none) (nt : mg "tuple" = none) (GD : Cal P w K mg base CX0 2 "_law_draw" fD fdD ["_law_hand_here", "_law_many"] spDraw) : FnOk P w K mg base CX0 3 f fd ["_law_hand_here", "_law_row"] spShape := by
  refine F.ok sc_Lshape (fun vs H Q E h => ?_) (fun cdv A outer s H vs Q E hr h => ?_)
  · obtain ⟨h, q, t, ts, rfl, _⟩ := h
    rfl
  · obtain ⟨h, q, t, ts, rfl, hh, et, k⟩ := h
    refine ⟨_, (pss_cons 
  (ps_if (pt_cmpR op_eq (pcal GD hr pass0 (pa_cons (pv 0) (pa_cons pe_int pa_nil))) pe_int (nomark _)) (pss_one 
    (ps_ret (pe_callTy (T := "list") (r := rLst K) call_list_of (by rfl) nli (by decide +kernel) (pa_cons (pv 1) pa_nil)))) pss_nil) (pss_one 
  (ps_ret (pe_callTy (T := "tuple") (r := rTup K) call_tuple_of (by rfl) nt (by decide +kernel) (pa_cons (pv 1) pa_nil))))), ?_⟩
    obtain ⟨cs, i, r, u, eh, _⟩ := id hh
    have nth : t ≠ h := ne_of et eh (by intro z; cases z)
    refine ⟨_, rfl, h, q, 2, rfl, by decide, by decide, hh, fun v H1 v0 v2 b1 h1 => ⟨rfl, _, rfl, ?_⟩⟩
    have et1 := b1 _ _ nth et
    refine ifD (fun c => ?_) (fun c => ?_)
    · refine ⟨_, rfl, t, _, rfl, .inr (SqT.of et1), fun z hz => ?_⟩
      exact k _ z (.lst (ts.map V.int)) (b1.trans (But.new hz)) (h1.new hz) ⟨z, rfl, upd_same⟩ rfl rfl (fun e => by
        obtain ⟨_, _, _, _, e1, _⟩ := h1
        rw [e] at hz
        rw [hz] at e1
        cases e1)
    · exact ⟨_, rfl, t, _, rfl, .inr ⟨SqT.of et1, k _ t (.tup (ts.map V.int)) b1 h1 ⟨t, rfl, et1⟩ rfl rfl nth⟩⟩
end
end J

set_option Elab.async false
set_option linter.all false
set_option maxRecDepth 100000
set_option maxHeartbeats 8000000
namespace J
open PySem PySem.Spec PyProof.Rows L2
/-! ### isinstance of the caught error, an error with fields -/
def rIsX (K : PySem.W.Frag) (C a : Addr) (cls : Value) (d : Option Addr) : List V → Hp → VK → Prop := fun xs H Q => ∃ (c : V) (cv : Value) (b : Bool) (dd : Addr) (fs : List (Str × V)), xs = [.ref a, c] ∧ cls = .ref C ∧ d = some dd ∧ H dd = some (.xd fs) ∧ ClsV c cv ∧ PySem.W.kitOne K (.ref C) cv = some b ∧ Q (.bl b) H
theorem call_isX {X : Cx} {a C : Addr} {oe : Obj} {cls : Value} {d : Option Addr} {pn : List (Addr × Obj)} (E : ExcC X.K C) (hz : Zc cls d oe) (hf : ∃ vs, oe.data = .fields vs) : CallR (X.suite a ((a, oe) :: pn)) (.builtin "isinstance") (rIsX X.K C a cls d) := by
  intro pins s σ H xs us Q I r h
  obtain ⟨c, cv, b, dd, fs, rfl, rfl, rfl, ea, k, e, q⟩ := h
  obtain ⟨u1, u2, rfl, r1, r2⟩ := vals2 r
  have e2 := k.eq r2
  subst e2
  obtain rfl : u1 = Value.ref a := r1
  obtain ⟨hget, _⟩ := I.pin (a, oe) (List.mem_append_left _ List.mem_cons_self)
  obtain ⟨vs, hd⟩ := hf
  have hx : ObjOk X.prog X.w H s.heap dd (.xd fs) := I.hok dd _ ea
  obtain ⟨mA, hns, hr⟩ := hx
  obtain ⟨od, ho, hl⟩ := lookIn_ns hns
  have J : PySem.W.InstAt s.heap a oe C (some od) := ⟨hget, hz.1, by unfold PySem.W.notCls; rw [hd] <;> rfl, by rw [hz.2]; exact ho⟩
  have hcl : (PySem.W.clsIn X.K C).isSome = true := by
    obtain ⟨cd, hc, _⟩ := PySem.W.any_some E.hd
    rw [hc]
    rfl
  exact PySem.W.kia_one (PySem.W.kitx_exc hcl E.hg E.hk E.hs E.ha E.hn E.ht E.hm) I.kIn J e (fun z => nomatch z) fun tk => ⟨.bl b, H, I.tok tk, rfl, q⟩
/-! ### things that are no threes -/
/-- an item: a thing with its data -/
def Itm (K : PySem.W.Frag) (H : Hp) (y : V) : Prop := (∃ s, Is H y s) ∧ ∃ d : PyData, d.canLay0 = true ∧ d.depth ≤ 1 ∧ ∀ H', Same H H' → Dp K H' y d
theorem Itm.keep {K : PySem.W.Frag} {H H' : Hp} {y : V} (h : Itm K H y) (S : Same H H') : Itm K H' y := by
  obtain ⟨⟨s, a⟩, d, b, c, e⟩ := h
  exact ⟨⟨s, a.keep S⟩, d, b, c, fun H2 S2 => e H2 (S.trans S2)⟩
theorem itm_int {K : PySem.W.Frag} {H : Hp} (n : Int) : Itm K H (.int n) := ⟨⟨.sc (.int n), rfl, rfl⟩, .int n, by simp [PyData.canLay0], by simp [PyData.depth], fun _ _ => .int n⟩
theorem itm_bl {K : PySem.W.Frag} {H : Hp} (b : Bool) : Itm K H (.bl b) := ⟨⟨.sc (.bl b), rfl, rfl⟩, .bool b, by simp [PyData.canLay0], by simp [PyData.depth], fun _ _ => .bl b⟩
theorem itm_non {K : PySem.W.Frag} {H : Hp} : Itm K H .non := ⟨⟨.sc .non, rfl, rfl⟩, .none, by simp [PyData.canLay0], by simp [PyData.depth], fun _ _ => .non⟩
theorem itm_tup {K : PySem.W.Frag} {H : Hp} {z : Addr} (h : H z = some (.tup [.int 0])) : Itm K H (.ref z) := ⟨⟨.tup _, z, rfl, h⟩, .tuple [.int 0], by simp [PyData.canLay0, PyData.canLayAll0], by simp [PyData.depth, PyData.depthAll], fun H' S => .tup (SqT.of (S _ _ h)) (.cons (.int 0) .nil)⟩
theorem itm_all {K : PySem.W.Frag} {H : Hp} : ∀ {xs : List V}, (∀ y ∈ xs, Itm K H y) → ∃ ds : List PyData, PyData.canLayAll0 ds = true ∧ PyData.depthAll ds ≤ 1 ∧ ∀ H', Same H H' → DpAll K H' xs ds
  | [], _ => ⟨[], by simp [PyData.canLayAll0], by simp [PyData.depthAll], fun _ _ => .nil⟩
  | x :: xs, h => by
    obtain ⟨ds, a, b, c⟩ := itm_all (xs := xs) fun y hy => h y (List.mem_cons_of_mem _ hy)
    obtain ⟨_, d, a1, b1, c1⟩ := h x List.mem_cons_self
    refine ⟨d :: ds, by simp only [PyData.canLayAll0, a1, a, Bool.and_self], ?_, fun H' S => .cons (c1 H' S) (c H' S)⟩
    simp only [PyData.depthAll]
    omega
/-- no three of m ties -/
def BadT (K : PySem.W.Frag) (m : Nat) (H : Hp) (v : V) (s : Sh) : Prop := Is H v s ∧ Known H (items s) ∧ (∀ ns : List Int, ns.length = m → threeB ns s = false) ∧ ∃ d : PyData, SeqAt.shaped d = true ∧ PyData.eqv d d = true ∧ ∀ H', Same H H' → Dp K H' v d
theorem BadT.keep {K : PySem.W.Frag} {m : Nat} {H H' : Hp} {v : V} {s : Sh} (h : BadT K m H v s) (S : Same H H') : BadT K m H' v s := by
  obtain ⟨a, b, c, d, e, f, g⟩ := h
  exact ⟨a.keep S, fun y hy => by obtain ⟨t, ht⟩ := b y hy; exact ⟨t, ht.keep S⟩, c, d, e, f, fun H2 S2 => g H2 (S.trans S2)⟩
theorem badT_lst {K : PySem.W.Frag} {m : Nat} {H : Hp} {z : Addr} {xs : List V} (e : H z = some (.lst xs)) (h : ∀ y ∈ xs, Itm K H y) (b : ∀ ns : List Int, ns.length = m → threeB ns (.lst xs) = false) : BadT K m H (.ref z) (.lst xs) := by
  obtain ⟨ds, a1, a2, a3⟩ := itm_all h
  refine ⟨⟨z, rfl, e⟩, fun y hy => (h y hy).1, b, .list ds, ?_, ?_, fun H' S => .lst (SqL.of (S _ _ e)) (a3 H' S)⟩
  · show (PyData.canLay0 (.list ds) && decide (PyData.depth (.list ds) ≤ 64)) = true
    rw [Bool.and_eq_true]
    refine ⟨by simp only [PyData.canLay0]; exact a1, decide_eq_true ?_⟩
    simp only [PyData.depth]
    omega
  · simp only [PyData.eqv]
    exact SeqAt.eqvAll_refl ds a1
theorem badT_tup {K : PySem.W.Frag} {m : Nat} {H : Hp} {z : Addr} {xs : List V} (e : H z = some (.tup xs)) (h : ∀ y ∈ xs, Itm K H y) (b : ∀ ns : List Int, ns.length = m → threeB ns (.tup xs) = false) : BadT K m H (.ref z) (.tup xs) := by
  obtain ⟨ds, a1, a2, a3⟩ := itm_all h
  refine ⟨⟨z, rfl, e⟩, fun y hy => (h y hy).1, b, .tuple ds, ?_, ?_, fun H' S => .tup (SqT.of (S _ _ e)) (a3 H' S)⟩
  · show (PyData.canLay0 (.tuple ds) && decide (PyData.depth (.tuple ds) ≤ 64)) = true
    rw [Bool.and_eq_true]
    refine ⟨by simp only [PyData.canLay0]; exact a1, decide_eq_true ?_⟩
    simp only [PyData.depth]
    omega
  · simp only [PyData.eqv]
    exact SeqAt.eqvAll_refl ds a1
theorem badT_sc {K : PySem.W.Frag} {m : Nat} {H : Hp} {v : V} {d : PyData} (s : isSc v = true) (a1 : d.canLay0 = true) (a2 : d.depth ≤ 1) (a3 : PyData.eqv d d = true) (a4 : ∀ H', Dp K H' v d) : BadT K m H v (.sc v) := by
  refine ⟨(⟨rfl, s⟩ : v = v ∧ isSc v = true), (fun y hy => by cases hy), fun _ _ => rfl, d, ?_, a3, fun H' _ => a4 H'⟩
  show (d.canLay0 && decide (d.depth ≤ 64)) = true
  rw [a1, Bool.true_and]
  exact decide_eq_true (by omega)
theorem all3 {f : V → Bool} {a b c : V} (h : f a = false ∨ f b = false ∨ f c = false) : (decide (([a, b, c] : List V).length = 3) && ([a, b, c] : List V).all f) = false := by
  rcases h with h | h | h <;> simp [h]
/-- an item that is no tie of m ties -/
def Odd (m : Nat) (y : V) : Prop := ∀ ns : List Int, ns.length = m → tieB ns y = false
theorem odd_int {m : Nat} {n : Int} (h : n < 0 ∨ (m : Int) ≤ n) : Odd m (.int n) := fun ns hn => by
  cases e : tieB ns (.int n) with
  | false => rfl
  | true =>
    obtain ⟨i, b, e1, e2⟩ := tieB_true e
    injection e1 with e1
    have := (List.getElem?_eq_some_iff.mp e2).1
    omega
theorem odd_sc {m : Nat} {y : V} (h : ∀ n : Int, y ≠ .int n) : Odd m y := fun ns hn => by
  cases e : tieB ns y with
  | false => rfl
  | true =>
    obtain ⟨i, b, e1, e2⟩ := tieB_true e
    exact absurd e1 (h _)
section
variable {P : Program} {w : World} {K : PySem.W.Frag} {mg : Str → Option Value} {base : Heap}
theorem no_three {ns : List Int} {s : Sh} (h : threeB ns s = false) {A : Prop} {p q r : Int} (e : items s = [.int p, .int q, .int r]) (ip : InT ns p) (iq : InT ns q) (ir : InT ns r) : A := by
  have t : ([V.int p, .int q, .int r] : List V).all (tieB ns) = true := by
    simp only [List.all_cons, List.all_nil, tie_in ip, tie_in iq, tie_in ir, Bool.and_self]
  cases s with
  | sc u => cases e
  | dk => cases e
  | lst xs =>
    obtain rfl : xs = _ := e
    have q : (decide (([V.int p, .int q, .int r] : List V).length = 3) && ([V.int p, .int q, .int r] : List V).all (tieB ns)) = false := h
    rw [t] at q
    cases q
  | tup xs =>
    obtain rfl : xs = _ := e
    have q : (decide (([V.int p, .int q, .int r] : List V).length = 3) && ([V.int p, .int q, .int r] : List V).all (tieB ns)) = false := h
    rw [t] at q
    cases q
theorem iteT' {b : Bool} {A B : Prop} (e : b = true) (h : A) : if b = true then A else B := by
  rw [if_pos e]
  exact h
end
end J

set_option Elab.async false
set_option linter.all false
set_option maxRecDepth 100000
set_option maxHeartbeats 8000000
namespace J
open PySem PySem.Spec PyProof.Rows L2
/-! ### ascending lists, readings once more -/
theorem asc_unique {α : Type} {f : α → Int} : ∀ {L1 L2 : List α}, L1.Pairwise (fun a b => f a < f b) → L2.Pairwise (fun a b => f a < f b) → (∀ x, x ∈ L1 ↔ x ∈ L2) → L1 = L2
  | [], [], _, _, _ => rfl
  | [], y :: ys, _, _, h => by
    have := (h y).mpr List.mem_cons_self
    cases this
  | x :: xs, [], _, _, h => by
    have := (h x).mp List.mem_cons_self
    cases this
  | x :: xs, y :: ys, h1, h2, h => by
    rw [List.pairwise_cons] at h1 h2
    have e : x = y := by
      have a := (h x).mp List.mem_cons_self
      have b := (h y).mpr List.mem_cons_self
      rw [List.mem_cons] at a b
      rcases a with a | a
      · exact a
      · rcases b with b | b
        · exact b.symm
        · have := h1.1 _ b
          have := h2.1 _ a
          omega
    subst e
    have t : xs = ys := asc_unique h1.2 h2.2 fun z => by
      have q := h z
      rw [List.mem_cons, List.mem_cons] at q
      constructor
      · intro m
        rcases q.mp (.inr m) with e | e
        · subst e
          have := h1.1 _ m
          omega
        · exact e
      · intro m
        rcases q.mpr (.inr m) with e | e
        · subst e
          have := h2.1 _ m
          omega
        · exact e
    rw [t]
theorem rdl_unique {ns : List Int} {p q r : Int} {L L' : List (List Int)} (a : RdL ns p q r L) (b : RdL ns p q r L') : L = L' := asc_unique a.1 b.1 fun x => by rw [a.2, b.2]
theorem six_same {ns : List Int} {p q r a b c : Int} (g : GoodB ns) (ip : InT ns p) (iq : InT ns q) (ir : InT ns r) (h : [a, b, c] ∈ six ns p q r) : ∀ x, x ∈ six ns a b c ↔ x ∈ six ns p q r := by
  have e1 := bk_bk g ip
  have e2 := bk_bk g iq
  have e3 := bk_bk g ir
  intro x
  simp only [six, List.mem_cons, List.not_mem_nil, or_false, List.cons.injEq, and_true] at h
  rcases h with ⟨rfl, rfl, rfl⟩ | ⟨rfl, rfl, rfl⟩ | ⟨rfl, rfl, rfl⟩ | ⟨rfl, rfl, rfl⟩ | ⟨rfl, rfl, rfl⟩ | ⟨rfl, rfl, rfl⟩ <;>
    (simp only [six, List.mem_cons, List.not_mem_nil, or_false, e1, e2, e3]
     try (constructor <;> (rintro (h | h | h | h | h | h) <;> simp [h])))
theorem rdl_same {ns : List Int} {p q r a b c : Int} {L : List (List Int)} (g : GoodB ns) (ip : InT ns p) (iq : InT ns q) (ir : InT ns r) (h : [a, b, c] ∈ six ns p q r) (R : RdL ns a b c L) : RdL ns p q r L := ⟨R.1, fun x => by rw [R.2, six_same g ip iq ir h]⟩
theorem rdl_same' {ns : List Int} {p q r a b c : Int} {L : List (List Int)} (g : GoodB ns) (ip : InT ns p) (iq : InT ns q) (ir : InT ns r) (h : [a, b, c] ∈ six ns p q r) (R : RdL ns p q r L) : RdL ns a b c L := ⟨R.1, fun x => by rw [R.2, six_same g ip iq ir h]⟩
theorem len_sub : ∀ {L S : List (List Int)}, L.Nodup → (∀ x ∈ L, x ∈ S) → L.length ≤ S.length
  | [], _, _, _ => Nat.zero_le _
  | x :: xs, S, n, h => by
    rw [List.nodup_cons] at n
    have m := h x List.mem_cons_self
    have := len_sub (L := xs) (S := S.erase x) n.2 fun y hy => by
      have ne : y ≠ x := fun e => n.1 (e ▸ hy)
      exact (List.mem_erase_of_ne ne).mpr (h y (List.mem_cons_of_mem _ hy))
    rw [List.length_erase_of_mem m] at this
    have := List.length_pos_of_mem m
    rw [List.length_cons]
    omega
theorem asc_nodup {f : List Int → Int} {L : List (List Int)} (h : L.Pairwise (fun a b => f a < f b)) : L.Nodup := h.imp fun {a b} q e => by
  subst e
  omega
theorem rdl_len {ns : List Int} {p q r : Int} {L : List (List Int)} (R : RdL ns p q r L) : L.length ≤ 6 := len_sub (S := six ns p q r) (asc_nodup R.1) fun x hx => (R.2 x).mp hx
theorem rdl_pos {ns : List Int} {p q r : Int} {L : List (List Int)} (R : RdL ns p q r L) : ∃ t L', L = t :: L' := by
  cases L with
  | nil =>
    have : [p, q, r] ∈ ([] : List (List Int)) := (R.2 _).mpr (by simp [six])
    cases this
  | cons t L' => exact ⟨t, L', rfl⟩
theorem A3_asc : ∀ n, n ≤ 4 → (A3 n n).Pairwise (fun a b => TS.code 4 a < TS.code 4 b) := by decide +kernel
theorem in_A3 {ns : List Int} {a b c : Int} (ia : InT ns a) (ib : InT ns b) (ic : InT ns c) : [a, b, c] ∈ A3 ns.length ns.length := by
  refine A3_mem.mpr ⟨a.toNat, b.toNat, c.toNat, ?_, ?_, ?_, ?_⟩
  · have := ia.1; have := ia.2; omega
  · have := ib.1; have := ib.2; omega
  · have := ic.1; have := ic.2; omega
  · rw [Int.toNat_of_nonneg ia.1, Int.toNat_of_nonneg ib.1, Int.toNat_of_nonneg ic.1]
/-- the classes that were found among the first i threes -/
structure ClsF (ns : List Int) (i : Nat) (Cs : List (List Int)) : Prop where
  nd : Cs.Nodup
  sub : ∀ c ∈ Cs, c ∈ A3 ns.length ns.length ∧ isL ns c = true
  ex : ∀ (j : Nat) (p q r : Int), j < i → (A3 ns.length ns.length)[j]? = some [p, q, r] → ∃ L, RdL ns p q r L
  all : ∀ (j : Nat) (p q r : Int) (t : List Int) (L : List (List Int)), j < i → (A3 ns.length ns.length)[j]? = some [p, q, r] → RdL ns p q r (t :: L) → t ∈ Cs
theorem ClsF.nil {ns : List Int} : ClsF ns 0 [] := ⟨List.nodup_nil, fun c h => by (cases h), fun j p q r h => by omega, fun j p q r t L h => by omega⟩
theorem least_ok {ns : List Int} {p q r : Int} {t : List Int} {L : List (List Int)} (g : GoodB ns) (ip : InT ns p) (iq : InT ns q) (ir : InT ns r) (R : RdL ns p q r (t :: L)) : t ∈ A3 ns.length ns.length ∧ isL ns t = true := by
  have m := (R.2 t).mp List.mem_cons_self
  obtain ⟨a, b, c, rfl, ia, ib, ic⟩ := six_in g ip iq ir t m
  refine ⟨in_A3 ia ib ic, ?_⟩
  rw [← isL_iff (rdl_same' g ip iq ir m R)]
  exact decide_eq_true rfl
theorem ClsF.step {ns : List Int} {i : Nat} {Cs : List (List Int)} {p q r : Int} {t : List Int} {L : List (List Int)} (h : ClsF ns i Cs) (g : GoodB ns) (e : (A3 ns.length ns.length)[i]? = some [p, q, r]) (ip : InT ns p) (iq : InT ns q) (ir : InT ns r) (R : RdL ns p q r (t :: L)) :
    ClsF ns (i + 1) (if t ∈ Cs then Cs else Cs ++ [t]) := by
  have ok := least_ok g ip iq ir R
  have last : ∀ (p' q' r' : Int) (t' : List Int) (L' : List (List Int)), (A3 ns.length ns.length)[i]? = some [p', q', r'] → RdL ns p' q' r' (t' :: L') → t' = t := fun p' q' r' t' L' e' R' => by
    rw [e] at e'
    have e' := Option.some.inj e'
    injection e' with e1 e'
    injection e' with e2 e'
    injection e' with e3 e'
    subst e1 e2 e3
    have := rdl_unique R' R
    injection this
  have exs : ∀ (j : Nat) (p' q' r' : Int), j < i + 1 → (A3 ns.length ns.length)[j]? = some [p', q', r'] → ∃ L, RdL ns p' q' r' L := fun j p' q' r' hj e' => by
    rcases Nat.lt_or_ge j i with hi | hi
    · exact h.ex j p' q' r' hi e'
    · obtain rfl : j = i := by omega
      rw [e] at e'
      have e' := Option.some.inj e'
      injection e' with e1 e'
      injection e' with e2 e'
      injection e' with e3 e'
      subst e1 e2 e3
      exact ⟨_, R⟩
  by_cases c : t ∈ Cs
  · rw [if_pos c]
    refine ⟨h.nd, h.sub, exs, fun j p' q' r' t' L' hj e' R' => ?_⟩
    rcases Nat.lt_or_ge j i with hi | hi
    · exact h.all j p' q' r' t' L' hi e' R'
    · obtain rfl : j = i := by omega
      rw [last p' q' r' t' L' e' R']
      exact c
  · rw [if_neg c]
    refine ⟨?_, fun x hx => ?_, exs, fun j p' q' r' t' L' hj e' R' => ?_⟩
    · rw [List.nodup_append]
      exact ⟨h.nd, by simp, fun a ha b hb => by rw [List.mem_singleton] at hb; subst hb; exact fun e => c (e ▸ ha)⟩
    · rw [List.mem_append, List.mem_singleton] at hx
      rcases hx with hx | rfl
      · exact h.sub x hx
      · exact ok
    · rw [List.mem_append, List.mem_singleton]
      rcases Nat.lt_or_ge j i with hi | hi
      · exact .inl (h.all j p' q' r' t' L' hi e' R')
      · obtain rfl : j = i := by omega
        exact .inr (last p' q' r' t' L' e' R')
theorem A3_len3 : ∀ n, n ≤ 3 → (A3 n n).length ≤ 27 := by decide +kernel
theorem not_isL {ns : List Int} (g : GoodB ns) (h4 : ns.length = 4) : isL ns [3, 0, 0] = false := by
  have i0 : InT ns 0 := ⟨by omega, by omega⟩
  have b0 := bk_in g i0
  show ((six ns 3 0 0).all fun x => decide (TS.code 4 [3, 0, 0] ≤ TS.code 4 x)) = false
  rw [List.all_eq_false]
  refine ⟨[0, bk ns 0, 3], by simp [six], fun z => ?_⟩
  have z := of_decide_eq_true z
  have := b0.1
  have := b0.2
  simp only [TS.code] at z
  simp at z
  omega
theorem ClsF.len {ns : List Int} {i : Nat} {Cs : List (List Int)} (h : ClsF ns i Cs) (g : GoodB ns) : Cs.length < 64 := by
  rcases Nat.lt_or_ge ns.length 4 with n3 | n4
  · have := len_sub h.nd fun x hx => (h.sub x hx).1
    have := A3_len3 ns.length (by omega)
    omega
  · have h4 : ns.length = 4 := by have := g.hi; omega
    have i0 : InT ns 0 := ⟨by omega, by omega⟩
    have i3 : InT ns 3 := ⟨by omega, by omega⟩
    have m := in_A3 i3 i0 i0
    have := len_sub (S := (A3 ns.length ns.length).erase [3, 0, 0]) h.nd fun x hx => by
      have ne : x ≠ [3, 0, 0] := fun e => by
        have := (h.sub x hx).2
        rw [e, not_isL g h4] at this
        cases this
      exact (List.mem_erase_of_ne ne).mpr (h.sub x hx).1
    rw [List.length_erase_of_mem m] at this
    have := A3_len ns.length g.hi
    have := List.length_pos_of_mem m
    omega
/-- the classes, sorted, are the least readings -/
theorem ClsF.sorted {ns : List Int} {Cs Ds : List (List Int)} (h : ClsF ns (A3 ns.length ns.length).length Cs) (g : GoodB ns) (pm : Ds.Perm Cs) (pw : Ds.Pairwise (fun a b => TS.code 4 a < TS.code 4 b)) : Ds = (A3 ns.length ns.length).filter (isL ns) := by
  refine asc_unique pw ((A3_asc ns.length g.hi).filter _) fun x => ?_
  rw [pm.mem_iff, List.mem_filter]
  refine ⟨fun m => h.sub x m, fun ⟨m, l⟩ => ?_⟩
  obtain ⟨p, q, r, rfl, ip, iq, ir⟩ := A3_in m rfl
  obtain ⟨j, hj⟩ := List.getElem?_of_mem m
  obtain ⟨L, R⟩ := h.ex j p q r (List.getElem?_eq_some_iff.mp hj).1 hj
  obtain ⟨t, L', rfl⟩ := rdl_pos R
  have tm := h.all j p q r t L' (List.getElem?_eq_some_iff.mp hj).1 hj R
  have := isL_iff R
  rw [l] at this
  rw [of_decide_eq_true this]
  exact tm
theorem LstsAt.app {H H' : Hp} {z w u : Addr} {L M : List (List Int)} {xs ys : List V} (hz : LstsAt H z L) (hw : LstsAt H w M) (ex : H z = some (.lst xs)) (ey : H w = some (.lst ys)) (S : Same H H') (e : H' u = some (.lst (xs ++ ys))) : LstsAt H' u (L ++ M) := by
  obtain ⟨ps, a1, a2, a3⟩ := hz
  obtain ⟨qs, b1, b2, b3⟩ := hw
  rw [a1] at ex
  rw [b1] at ey
  obtain rfl : _ = xs := HO.lst.inj (Option.some.inj ex)
  obtain rfl : _ = ys := HO.lst.inj (Option.some.inj ey)
  refine ⟨ps ++ qs, by rw [e, List.map_append], by rw [List.length_append, List.length_append, a2, b2], fun j a ts q1 q2 => ?_⟩
  rcases Nat.lt_or_ge j ps.length with hj | hj
  · rw [List.getElem?_append_left hj] at q1
    rw [List.getElem?_append_left (by omega)] at q2
    exact S _ _ (a3 j a ts q1 q2)
  · rw [List.getElem?_append_right hj] at q1
    rw [List.getElem?_append_right (by omega), ← a2] at q2
    exact S _ _ (b3 _ a ts q1 q2)
theorem Gro.lsts {H1 H : Hp} {D : Addr} {L : List (List Int)} (G : Gro H1 H D L) : LstsAt H D L := by
  obtain ⟨ps, a, b, c⟩ := G.d
  exact ⟨ps, a, b, fun j x ts e1 e2 => (c j x ts e1 e2).2⟩
/-- all but two lists stand -/
def Fr (h cl : Addr) (H H' : Hp) : Prop := ∀ a o, a ≠ h → a ≠ cl → H a = some o → H' a = some o
theorem Fr.but {h cl : Addr} {H H1 H2 : Hp} (f : Fr h cl H H1) (b : But h H1 H2) : Fr h cl H H2 := fun a o n1 n2 e => b a o n1 (f a o n1 n2 e)
theorem Fr.same {h cl : Addr} {H H1 H2 : Hp} (f : Fr h cl H H1) (S : Same H1 H2) : Fr h cl H H2 := fun a o n1 n2 e => S a o (f a o n1 n2 e)
theorem LstsAt.fr {h cl : Addr} {H H' : Hp} {z : Addr} {L : List (List Int)} {us vs : List V} (hz : LstsAt H z L) (eh : H h = some (.lst us)) (ec : H cl = some (.lst vs)) (n1 : z ≠ h) (n2 : z ≠ cl) (f : Fr h cl H H') : LstsAt H' z L := by
  obtain ⟨ps, a1, a2, a3⟩ := hz
  exact ⟨ps, f _ _ n1 n2 a1, a2, fun j a ts e1 e2 => f _ _ (ne_of (a3 j a ts e1 e2) eh (by intro z; cases z)) (ne_of (a3 j a ts e1 e2) ec (by intro z; cases z)) (a3 j a ts e1 e2)⟩
theorem LstsAt.but {h : Addr} {H H' : Hp} {z : Addr} {L : List (List Int)} {us : List V} (hz : LstsAt H z L) (eh : H h = some (.lst us)) (n1 : z ≠ h) (f : But h H H') : LstsAt H' z L := by
  obtain ⟨ps, a1, a2, a3⟩ := hz
  exact ⟨ps, f _ _ n1 a1, a2, fun j a ts e1 e2 => f _ _ (ne_of (a3 j a ts e1 e2) eh (by intro z; cases z)) (a3 j a ts e1 e2)⟩
theorem LstsAt.tup {H : Hp} {z w : Addr} {L : List (List Int)} {xs : List V} (hz : LstsAt H z L) (ex : H z = some (.lst xs)) (hw : H w = none) : TupsAt (upd H w (.tup xs)) w L := by
  obtain ⟨ps, a1, a2, a3⟩ := hz
  rw [a1] at ex
  obtain rfl : _ = xs := HO.lst.inj (Option.some.inj ex)
  exact ⟨ps, upd_same, a2, fun j a ts e1 e2 => new_same hw _ _ (a3 j a ts e1 e2)⟩
theorem LstsAt.data {K : PySem.W.Frag} {H : Hp} {z : Addr} {L : List (List Int)} (h : LstsAt H z L) : Dp K H (.ref z) (.list (tupsD L)) ∧ SeqAt.shaped (.list (tupsD L)) = true := by
  obtain ⟨ps, e1, e2, e3⟩ := h
  exact ⟨.lst (SqL.of e1) (dp_tupsD e2 e3), shaped_tupsD L⟩
theorem TiesAt.fr {C h cl : Addr} {H H' : Hp} {x : Addr} {ns us vs : List _} (T : TiesAt C H x ns) (eh : H h = some (.lst us)) (ec : H cl = some (.lst vs)) (f : Fr h cl H H') : TiesAt C H' x ns := by
  obtain ⟨dx, t, e1, e2⟩ := T
  exact ⟨dx, t, f _ _ (ne_of e1 eh (by intro z; cases z)) (ne_of e1 ec (by intro z; cases z)) e1, f _ _ (ne_of e2 eh (by intro z; cases z)) (ne_of e2 ec (by intro z; cases z)) e2⟩
theorem TiesAt.but {C h : Addr} {H H' : Hp} {x : Addr} {ns us : List _} (T : TiesAt C H x ns) (eh : H h = some (.lst us)) (f : But h H H') : TiesAt C H' x ns := by
  obtain ⟨dx, t, e1, e2⟩ := T
  exact ⟨dx, t, f _ _ (ne_of e1 eh (by intro z; cases z)) e1, f _ _ (ne_of e2 eh (by intro z; cases z)) e2⟩
/-- sorted(classes) -/
theorem sort_pre {K : PySem.W.Frag} {H : Hp} {cl : Addr} {ns : List Int} {Cs : List (List Int)} (hc : LstsAt H cl Cs) (h : ClsF ns (A3 ns.length ns.length).length Cs) (g : GoodB ns) :
    ∃ xs, H cl = some (.lst xs) ∧ xs.length < 64 ∧ (∀ x ∈ xs, ∃ ms, TupI K H x ms ∧ ms.length = 3 ∧ TS.Bd 4 ms) ∧
      ∀ (ys : List V) (z : Addr), ys.Perm xs → ys.Pairwise (fun x y => ∀ n m, TupI K H x n → TupI K H y m → TS.code 4 n ≤ TS.code 4 m) → H z = none → LstsAt (upd H z (.lst ys)) z ((A3 ns.length ns.length).filter (isL ns)) := by
  obtain ⟨ps, e1, e2, e3⟩ := hc
  have la := h.len g
  have BD : ∀ x ∈ Cs, x.length = 3 ∧ TS.Bd 4 x := fun x hx => by
    obtain ⟨p, q, r, rfl, ip, iq, ir⟩ := A3_in (h.sub x hx).1 rfl
    exact six_bd g ip iq ir _ (by simp [six])
  have inL : ∀ (j : Nat) (a : Addr), ps[j]? = some a → ∃ ts, Cs[j]? = some ts ∧ H a = some (.tup (ts.map V.int)) := fun j a ej => by
    have hj := (List.getElem?_eq_some_iff.mp ej).1
    have q := List.getElem?_eq_getElem (l := Cs) (i := j) (by omega)
    exact ⟨_, q, e3 j a _ ej q⟩
  refine ⟨_, e1, by rw [List.length_map, e2]; exact la, fun x hx => ?_, fun ys z pm pw hz => ?_⟩
  · obtain ⟨a, ha, rfl⟩ := List.mem_map.mp hx
    obtain ⟨j, hj⟩ := List.getElem?_of_mem ha
    obtain ⟨ts, q1, q2⟩ := inL j a hj
    obtain ⟨b1, b2⟩ := BD ts (List.mem_of_getElem? q1)
    exact ⟨ts, ⟨a, rfl, SqT.of q2⟩, b1, b2⟩
  · have zm : (ps.zip Cs).map (fun w => V.ref w.1) = ps.map V.ref := by
      rw [show (fun w : Addr × List Int => V.ref w.1) = V.ref ∘ Prod.fst from rfl, ← List.map_map, List.map_fst_zip (by omega)]
    rw [← zm] at pm
    obtain ⟨zs, pz, rfl⟩ := perm_map_inv pm rfl
    have zc : ∀ w ∈ zs, w.2 ∈ Cs ∧ H w.1 = some (.tup (w.2.map V.int)) := fun w hw => by
      have hw2 := pz.mem_iff.mp hw
      obtain ⟨j, hj⟩ := List.getElem?_of_mem hw2
      rw [List.getElem?_zip_eq_some] at hj
      obtain ⟨h1, h2⟩ := hj
      exact ⟨List.mem_of_getElem? h2, e3 j _ _ h1 h2⟩
    have p2 : (zs.map Prod.snd).Perm Cs := by
      have := pz.map Prod.snd
      rwa [List.map_snd_zip (by omega)] at this
    have T' : Same H (upd H z (.lst (zs.map fun w => V.ref w.1))) := new_same hz
    have asc : (zs.map Prod.snd).Pairwise (fun a b => TS.code 4 a < TS.code 4 b) := by
      have nd2 : (zs.map Prod.snd).Nodup := p2.nodup_iff.mpr h.nd
      rw [List.pairwise_map]
      have nd' : zs.Pairwise fun a b => a.2 ≠ b.2 := by
        have : (zs.map Prod.snd).Pairwise (· ≠ ·) := nd2
        rwa [List.pairwise_map] at this
      rw [List.pairwise_map] at pw
      refine (pw.and nd').imp_of_mem fun {a b} ma mb hh => ?_
      obtain ⟨h1, h2⟩ := hh
      obtain ⟨a1, a2⟩ := zc a ma
      obtain ⟨b1, b2⟩ := zc b mb
      have h1 := h1 a.2 b.2 ⟨a.1, rfl, SqT.of a2⟩ ⟨b.1, rfl, SqT.of b2⟩
      rcases Int.lt_or_eq_of_le h1 with h3 | h3
      · exact h3
      · obtain ⟨l1, c1⟩ := BD _ a1
        obtain ⟨l2, c2⟩ := BD _ b1
        exact absurd (code_inj (by omega) c1 c2 h3) h2
    rw [← h.sorted g p2 asc]
    refine ⟨zs.map Prod.fst, by rw [upd_same, List.map_map]; rfl, by rw [List.length_map, List.length_map], fun j a ts q1 q2 => ?_⟩
    rw [List.getElem?_map] at q1 q2
    cases ej : zs[j]? with
    | none => rw [ej] at q1; cases q1
    | some w =>
      rw [ej] at q1 q2
      obtain rfl := Option.some.inj q1
      obtain rfl := Option.some.inj q2
      exact T' _ _ (zc w (List.mem_of_getElem? ej)).2
theorem made_same {H : Hp} {x dx : Addr} {o u : HO} (hx : H x = none) (hd : H dx = none) : Same H (upd (upd H dx o) x u) := fun b v e => by
  rw [upd_ne (ne_of_none e hx), upd_ne (ne_of_none e hd)]
  exact e
theorem made_but {H H' : Hp} {x dx : Addr} {o u : HO} (hx : H x = none) (hd : H dx = none) (B : ∀ b v, b ≠ x → (upd (upd H dx o) x u) b = some v → H' b = some v) : Same H H' := fun b v e => B b v (ne_of_none e hx) (made_same hx hd b v e)
theorem map_int_inj : ∀ {xs ys : List Int}, xs.map V.int = ys.map V.int → xs = ys
  | [], [], _ => rfl
  | [], _ :: _, h => by cases h
  | _ :: _, [], h => by cases h
  | x :: xs, y :: ys, h => by
    rw [List.map_cons, List.map_cons] at h
    injection h with h1 h2
    injection h1 with h1
    rw [h1, map_int_inj h2]
theorem mk_ties {C CB : Addr} {H : Hp} {E : XK} {R : Addr → VK} {ns : List Int} {v : V} {s : Sh} (hs : Is H v s) (g : GoodB ns) (hq : (s.isL || s.isT) = true) (hi : items s = ns.map V.int) (k : ∀ (H' : Hp) (x : Addr), Same H H' → H x = none → TiesAt C H' x ns → R x .non H') :
    ∀ x dx, H x = none → H dx = none → dx ≠ x → spTies C CB [.ref x, v] (upd (upd H dx (.own x)) x (.ins C dx [])) (R x) E := by
  intro x dx hx hd _
  have S := made_same (H := H) (o := .own x) (u := .ins C dx []) hx hd
  have dn : due s = none := by
    cases s with
    | sc u => cases hq
    | dk => cases hq
    | lst xs => have e : xs = ns.map V.int := hi; subst e; exact due_of g
    | tup xs => have e : xs = ns.map V.int := hi; subst e; exact due_of g
  refine ⟨x, dx, v, s, rfl, upd_same, hs.keep S, fun y hy => ?_, fun w e => ?_, fun ms _ e H' B T => ?_⟩
  · rw [hi] at hy
    obtain ⟨n, _, rfl⟩ := List.mem_map.mp hy
    exact ⟨.sc (.int n), rfl, rfl⟩
  · rw [dn] at e
    cases e
  · obtain rfl := map_int_inj (hi.symm.trans e)
    exact k H' x (made_but hx hd B) hx T
theorem But.free {h l : Addr} {H H' : Hp} (B : But h H H') (n : l ≠ h) (e : H' l = none) : H l = none := by
  cases q : H l with
  | none => rfl
  | some o =>
    have := B _ _ n q
    rw [e] at this
    cases this
theorem A_len2 : ∀ n, n ≤ 4 → ∀ i, i < n → ∀ j, j < n → (A3 n i ++ A2 n i j).length + (A1 i j n).length ≤ 64 := by decide +kernel
theorem LstsAt.push {H : Hp} {z d : Addr} {L : List (List Int)} {t : List Int} {ps : List Addr} (h : LstsAt H z L) (e : H z = some (.lst (ps.map V.ref))) (ed : H d = some (.tup (t.map V.int))) : LstsAt (upd H z (.lst (ps.map V.ref ++ [.ref d]))) z (L ++ [t]) := by
  obtain ⟨qs, e1, e2, e3⟩ := h
  rw [e1] at e
  have w : qs.map V.ref = ps.map V.ref := HO.lst.inj (Option.some.inj e)
  rw [← w]
  have nz : d ≠ z := ne_of ed e1 (by intro z; cases z)
  refine ⟨qs ++ [d], by rw [upd_same, List.map_append]; rfl, by rw [List.length_append, List.length_append, e2]; rfl, fun j a us q1 q2 => ?_⟩
  rcases Nat.lt_or_ge j qs.length with hj | hj
  · rw [List.getElem?_append_left hj] at q1
    rw [List.getElem?_append_left (by omega)] at q2
    have := e3 j a us q1 q2
    rw [upd_ne (ne_of this e1 (by intro z; cases z))]
    exact this
  · have hj2 : j = qs.length := by
      have := (List.getElem?_eq_some_iff.mp q1).1
      rw [List.length_append] at this
      have l : [d].length = 1 := rfl
      omega
    subst hj2
    rw [List.getElem?_append_right (Nat.le_refl _), Nat.sub_self] at q1
    rw [e2, List.getElem?_append_right (Nat.le_refl _), Nat.sub_self] at q2
    obtain rfl : d = a := Option.some.inj q1
    obtain rfl : t = us := Option.some.inj q2
    rw [upd_ne nz]
    exact ed
theorem map_ref_inj : ∀ {xs ys : List Addr}, xs.map V.ref = ys.map V.ref → xs = ys
  | [], [], _ => rfl
  | [], _ :: _, h => by cases h
  | _ :: _, [], h => by cases h
  | x :: xs, y :: ys, h => by
    rw [List.map_cons, List.map_cons] at h
    injection h with h1 h2
    injection h1 with h1
    rw [h1, map_ref_inj h2]
theorem ints3 {s : Sh} {p q r p' q' r' : Int} (e : items s = ([p, q, r] : List Int).map V.int) (e' : items s = [.int p', .int q', .int r']) : p' = p ∧ q' = q ∧ r' = r := by
  rw [e] at e'
  injection e' with e1 e'
  injection e' with e2 e'
  injection e' with e3 e'
  injection e1 with e1
  injection e2 with e2
  injection e3 with e3
  exact ⟨e1.symm, e2.symm, e3.symm⟩
theorem is_seq {K : PySem.W.Frag} {H : Hp} {z : Addr} {s : Sh} {ys : List V} (h : Is H (.ref z) s) (e : items s = ys) (sq : (s.isL || s.isT) = true) : SqL K H z ys ∨ SqT K H z ys := by
  cases s with
  | sc u => cases sq
  | dk => cases sq
  | lst xs =>
    obtain ⟨p, e1, e2⟩ := h
    obtain rfl : z = p := V.ref.inj e1
    obtain rfl : xs = ys := e
    exact .inl (SqL.of e2)
  | tup xs =>
    obtain ⟨p, e1, e2⟩ := h
    obtain rfl : z = p := V.ref.inj e1
    obtain rfl : xs = ys := e
    exact .inr (SqT.of e2)
theorem three_yes {ns : List Int} {s : Sh} {p q r : Int} (e : items s = ([p, q, r] : List Int).map V.int) (sq : (s.isL || s.isT) = true) (ip : InT ns p) (iq : InT ns q) (ir : InT ns r) : threeB ns s = true := by
  have t : ([V.int p, .int q, .int r] : List V).all (tieB ns) = true := by
    simp only [List.all_cons, List.all_nil, tie_in ip, tie_in iq, tie_in ir, Bool.and_self]
  cases s with
  | sc u => cases sq
  | dk => cases sq
  | lst xs =>
    obtain rfl : xs = _ := e
    show (decide (([V.int p, .int q, .int r] : List V).length = 3) && ([V.int p, .int q, .int r] : List V).all (tieB ns)) = true
    rw [t]
    rfl
  | tup xs =>
    obtain rfl : xs = _ := e
    show (decide (([V.int p, .int q, .int r] : List V).length = 3) && ([V.int p, .int q, .int r] : List V).all (tieB ns)) = true
    rw [t]
    rfl
theorem known_ints {H : Hp} {s : Sh} {ts : List Int} (e : items s = ts.map V.int) : Known H (items s) := by
  rw [e]
  exact ints_known ts
theorem Hand.same_h' {H : Hp} {h q z : Addr} (x : Hand H h q) (hz : H z = none) : z ≠ h ∧ z ≠ q := ⟨fun e => (x.h_ne hz).1 e.symm, fun e => (x.h_ne hz).2 e.symm⟩
end J

set_option Elab.async false
set_option linter.all false
set_option maxRecDepth 100000
set_option maxHeartbeats 4000000
/-! sorted(d), d a dict whose keys are tuples of ints, at any length -/
namespace SD
open PySem PyProof.Rows PySem.W
open Classical in
noncomputable def keyIn (h : Heap) (d : Nat) (B : Int) (v : Value) : Option Int := if ∃ ns, TS.TupInts h v ns ∧ ns.length = d ∧ TS.Bd B ns then some (TS.code B (TS.intsOf h v)) else none
theorem keyIn_some {h : Heap} {d : Nat} {B : Int} {v : Value} {c : Int} (e : keyIn h d B v = some c) : ∃ ns, TS.TupInts h v ns ∧ ns.length = d ∧ TS.Bd B ns ∧ c = TS.code B ns := by
  unfold keyIn at e
  split at e
  · rename_i q
    obtain ⟨ns, t, l, b⟩ := q
    exact ⟨ns, t, l, b, by rw [← Option.some.inj e, t.ints]⟩
  · cases e
theorem keyIn_of {h : Heap} {d : Nat} {B : Int} {v : Value} {ns : List Int} (t : TS.TupInts h v ns) (l : ns.length = d) (b : TS.Bd B ns) : keyIn h d B v = some (TS.code B ns) := by
  unfold keyIn
  rw [if_pos ⟨ns, t, l, b⟩, t.ints]
@[reducible] noncomputable def knd (h : Heap) (d : Nat) (B : Int) : PyProof.Rows.KeyKind where
  α := Int
  blt a b := decide (a < b)
  irrefl a := decide_eq_false (Int.lt_irrefl a)
  trans a b c h1 h2 := decide_eq_true (Int.lt_trans (of_decide_eq_true h1) (of_decide_eq_true h2))
  negTrans a b c h1 := by
    have z := of_decide_eq_true h1
    rcases Int.lt_or_le a b with x | x
    · exact .inl (decide_eq_true x)
    · exact .inr (decide_eq_true (by omega))
  total a b h1 h2 := by
    have z1 := of_decide_eq_false h1
    have z2 := of_decide_eq_false h2
    omega
  keyOf := keyIn h d B
  dflt := 0
section
variable {prog : Program} {w : World} {A : Around} {E : Value → Shared → Prop} {s : Shared}
theorem lt_at {h : Heap} {d : Nat} {B : Int} (bo : Bool) (k : G.KeepsTups h s.heap) : G.LtAt prog w s (knd h d B) (tuples' bo) := by
  intro A E x y p q Q hx hy hq
  obtain ⟨ns, tp, lp, bp, rfl⟩ := keyIn_some hx
  obtain ⟨ms, tq, lq, bq, rfl⟩ := keyIn_some hy
  obtain ⟨a, xs, rfl, ⟨o, ho, hc, n, hdt⟩, i⟩ := tp
  obtain ⟨a', ys, rfl, ⟨o', ho', hc', n', hdt'⟩, i'⟩ := tq
  refine PySem.W.kat_lt (k _ _ ho hc) hdt (k _ _ ho' hc') hdt' ?_
  have sz : decide (xs.size < ys.size) = false := by
    have l1 := i.length
    have l2 := i'.length
    rw [Array.length_toList] at l1 l2
    exact decide_eq_false (by omega)
  rw [sz]
  exact TS.lex_ints 0 i i' (by omega) bp bq hq
theorem kind_at {M : Model} {d : Nat} {B : Int} {vs : List Value} {Q : SortKind → Shared → Prop} (hd : 1 ≤ d) (h2 : 2 ≤ vs.length) (x : TS.TupsOk s.heap d B vs) (h : Q (tuples' true) s) : wpAny M A (keyKind' vs.toArray) Q E s := by
  obtain ⟨fs, k, hl, hi⟩ := TS.firsts_of hd vs x
  have e : (Value.type "int" != Value.type "tuple") = true := by first | rfl | decide
  refine PySem.W.kat_kind (T := Value.type "int") k (by omega) (fun f hf => ?_) rfl (by rw [e]; exact h)
  obtain ⟨n, t, rfl⟩ := hi f hf
  exact PySem.W.Looks.of_pure rfl
theorem collectK {T : String} {r d : Addr} {n : Nat} {P : Nat → Value → Prop} {OK : Heap → Prop} {R : List Value → Shared → Prop} (K : PySem.W.KdlSrc prog w T r d n P OK) (hh : A.handled = none) (hok : OK s.heap) (hn : n ≤ sizeLine)
    (h : ∀ (h' : Heap) (tk : Nat) (vs : List Value), (∀ b o, s.heap.get? b = some o → h'.get? b = some o) → s.heap.objs.size < h'.objs.size → vs.length = n → (∀ j v, vs[j]? = some v → P j v) → R vs { s with heap := h', toks := tk }) :
    wpAny (model prog w) A (collect (.ref r)) R E s := by
  obtain ⟨hr, hd⟩ := K.there _ hok
  unfold collect
  refine wpAny_bind (wpAny_runValue (codeAny_builtin entry_proto_collect' ?_))
  rw [Around.under_plainId PySem.F.plain_proto_collect _]
  show wpAny _ A.in1 (newList [] >>= fun l => again (.builtin "list.__iadd__" ⟨[l, .ref r], []⟩)) _ _ s
  refine wpAny_bind (wpAny_newObj_type ?_)
  refine wpAny_pure ⟨plainId_quiet PySem.F.plain_list_iadd _, codeAny_builtin entry_list_iadd' ?_⟩
  rw [Around.under_plainId PySem.F.plain_list_iadd _]
  have hS₁ : (s.heap.push { cls := .type "list", data := .seq ([] : List Value).toArray }).get? s.heap.objs.size = some { cls := .type "list", data := .seq #[] } := Heap.get?_push_size _ rfl
  show wpAny _ A.in1 (Builtin.List.listExtendWith (.ref s.heap.objs.size) (.ref r) (.ref s.heap.objs.size)) _ _ _
  have key := PySem.W.kdl_extend (prog := prog) (w := w) (A := A) (s := { s with heap := s.heap.push { cls := .type "list", data := .seq ([] : List Value).toArray } })
    (R := fun (q : Result) (s' : Shared) => ∃ (h' : Heap) (tk : Nat) (acc' : Array Value) (c' : Nat), q = .ok (.ret (.ref s.heap.objs.size)) ∧ s' = { s with heap := h', toks := tk } ∧
      (∀ b o, s.heap.get? b = some o → h'.get? b = some o) ∧ h'.get? s.heap.objs.size = some { cls := .type "list", dict := none, data := .seq acc' c', slots := #[] } ∧ acc'.toList.length = n ∧ ∀ j v, acc'.toList[j]? = some v → P j v)
    K hh (K.keep _ _ hok fun b _ o e => Heap.get?_push_of_some _ e) s.heap.objs.size (Nat.ne_of_gt hr) (Nat.ne_of_gt hd) (.ref s.heap.objs.size) 0 hS₁
    (fun h' tk acc' c' hk hS' hacc => ⟨h', tk, acc', c', rfl, rfl, fun b o e => hk b o (Nat.ne_of_lt (Heap.lt_size e)) (Heap.get?_push_of_some _ e), hS', by rw [Array.length_toList]; exact hacc.1, fun j v e => hacc.2 j v (by rw [← Array.getElem?_toList]; exact e)⟩) hn
  refine wpAny_mono key (fun fin s' x => ?_) fun e s' x => ?_
  · cases fin with
    | done f =>
      obtain ⟨h', tk, acc', c', e, rfl, hk, hS', hl, hP⟩ := x
      cases e
      show wpAny _ A (load s.heap.objs.size >>= _) _ _ _
      refine wpAny_bind (wpAny_load hS' ?_)
      refine wpAny_pure ?_
      exact h h' tk acc'.toList hk (Heap.lt_size hS') hl hP
    | again c₁ =>
      refine ⟨x.1, codeAny_mono x.2 fun q s₂ y => ?_⟩
      obtain ⟨h', tk, acc', c', rfl, rfl, hk, hS', hl, hP⟩ := y
      show wpAny _ A (load s.heap.objs.size >>= _) _ _ _
      refine wpAny_bind (wpAny_load hS' ?_)
      refine wpAny_pure ?_
      exact h h' tk acc'.toList hk (Heap.lt_size hS') hl hP
  · obtain ⟨h', tk, acc', c', e, _⟩ := x
    cases e
/-- what the sort leaves, said of the values -/
theorem out_code {h : Heap} {d : Nat} {B : Int} {vs : List Value} {arr : Array Keyed} (hp : arr.Perm (pairsOf vs)) (x : TS.TupsOk h d B vs) (hs : SortedToK (knd h d B) arr (pairsOf vs).size) :
    (arr.map (·.2)).toList.Perm vs ∧ (arr.map (·.2)).toList.Pairwise (fun u v => TS.code B (TS.intsOf h u) ≤ TS.code B (TS.intsOf h v)) := by
  have pl : arr.toList.Perm (vs.zip vs) := by
    have z := hp.toList
    rw [pairsOf_toList] at z
    exact z
  have m : ∀ p ∈ arr.toList, p.1 = p.2 ∧ p.1 ∈ vs := fun p hp' => mem_zip_self (pl.mem_iff.mp hp')
  refine ⟨?_, ?_⟩
  · rw [Array.toList_map]
    have z := pl.map Prod.snd
    rw [List.map_snd_zip (Nat.le_refl _)] at z
    exact z
  · rw [Array.toList_map, List.pairwise_map, List.pairwise_iff_getElem]
    intro i j hi hj hij
    have sz : arr.size = (pairsOf vs).size := hp.size_eq
    rw [Array.length_toList] at hi hj
    have k := hs i j (Nat.le_of_lt hij) (by rw [← sz]; exact hj)
    have at_ : ∀ (n : Nat) (hn : n < arr.size), KK (knd h d B) arr n = TS.code B (TS.intsOf h arr[n].2) := by
      intro n hn
      obtain ⟨e1, e2⟩ := m arr[n] (Array.mem_toList_iff.mpr (Array.getElem_mem hn))
      obtain ⟨ns, t, l, b⟩ := x _ e2
      unfold KK
      rw [Array.getElem?_eq_getElem hn]
      show (keyIn h d B arr[n].1).getD 0 = _
      rw [keyIn_of t l b, ← e1, t.ints]
      rfl
    rw [at_ i hi, at_ j hj] at k
    have k' : decide (TS.code B (TS.intsOf h arr[j].2) < TS.code B (TS.intsOf h arr[i].2)) = false := k
    have := of_decide_eq_false k'
    rw [Array.getElem_toList, Array.getElem_toList]
    omega
theorem sortedK {T : String} {r dd : Addr} {n : Nat} {P : Nat → Value → Prop} {OK : Heap → Prop} {Q : Value → Shared → Prop} (K : PySem.W.KdlSrc prog w T r dd n P OK) (hh : A.handled = none) (hok : OK s.heap) (hn : n ≤ sizeLine) {d : Nat} {B : Int} (hd1 : 1 ≤ d)
    (hP : ∀ vs : List Value, vs.length = n → (∀ j v, vs[j]? = some v → P j v) → TS.TupsOk s.heap d B vs)
    (hQ : ∀ (h' : Heap) (tk : Nat) (p : Addr) (out : Array Value) (c : Nat) (vs : List Value), (∀ b o, s.heap.get? b = some o → h'.get? b = some o) → s.heap.objs.size ≤ p → h'.get? p = some (seqObj "list" out c) → vs.length = n → (∀ j v, vs[j]? = some v → P j v) →
      out.toList.Perm vs → out.toList.Pairwise (fun u v => TS.code B (TS.intsOf s.heap u) ≤ TS.code B (TS.intsOf s.heap v)) → Q (.ref p) { s with heap := h', toks := tk }) :
    wpAny (model prog w) A (call (.builtin "sorted") [.ref r]) Q E s := by
  refine Calls.call_function_entry kind_sorted plain_sorted entry_sorted (args_sorted1 _) ?_
  unfold Builtin.«sorted»
  refine wpAny_bind (m := checkCount "sorted" 1 1 _) (wpAny_pure ?_)
  refine wpAny_bind (collectK (A := A.in1) K hh hok hn fun h' tk vs hk hlt hl hPv => ?_)
  have X := hP vs hl hPv
  refine wpAny_bind (wpAny_newList ?_ (by rw [hl]; exact hn))
  have hoL : (h'.push (seqObj "list" vs.toArray 0)).get? h'.objs.size = some (seqObj "list" vs.toArray 0) := Heap.get?_push_size _ rfl
  have kb : G.KeepsTups s.heap (h'.push (seqObj "list" vs.toArray 0)) := fun b o e _ => Heap.get?_push_of_some _ (hk b o e)
  have k6 : G.KeepsTups s.heap (G.sortHeap6 (h'.push (seqObj "list" vs.toArray 0)) h'.objs.size vs) := kb.trans (G.keeps_sort6 hoL)
  refine wpAny_bind (wpAny_holding (wpAny_call_entry slot_list_sort ⟨_, hoL, rfl⟩ entry_list_sort
    (G.list_sort_treeG (s := { s with heap := h'.push (seqObj "list" vs.toArray 0), toks := tk }) (κ := knd s.heap d B) (kd := tuples' true) hoL (fun p hp => ?_) (lt_at true k6) (fun h2 Q' hq => kind_at hd1 h2 (X.keeps k6) hq) (by rw [hl]; exact hn)
      fun st' a1 a2 a3 => ⟨_, rfl, ?_⟩) (args_list_sort _)))
  · rw [pairsOf_toList] at hp
    obtain ⟨e, hm⟩ := mem_zip_self hp
    obtain ⟨ns, t, l, b⟩ := X _ hm
    exact ⟨_, keyIn_of t l b⟩
  · obtain ⟨o1, o2⟩ := out_code a1 X a2
    obtain ⟨c, hc⟩ := sortedHeap_at (vs := vs) (out := (arrOf st').map (·.2)) hoL
    refine wpAny_pure ⟨_, rfl, hQ _ tk h'.objs.size _ c vs (fun b u e => ?_) (Nat.le_of_lt hlt) hc hl hPv o1 o2⟩
    have q := hk b u e
    have hlt2 := Heap.lt_size q
    rw [sortedHeap_old (Nat.ne_of_lt hlt2) (by rw [size_push']; exact Nat.lt_succ_of_lt hlt2)]
    exact Heap.get?_push_of_some _ q
end
end SD
namespace L2
open PySem PySem.Spec PyProof.Rows
/-- sorted(d), d a dict with tuples of dd ints in [0, B) as keys -/
def rSortD (dd : Nat) (B : Int) : List V → Hp → VK → Prop := fun vs H Q => ∃ (a : Addr) (kvs : List (List Key × V)) (ks : List (List Int)), vs = [V.ref a] ∧ H a = some (.dT kvs) ∧ kvs.map (·.1) = ks.map (fun k => k.map Sum.inl) ∧ (∀ k ∈ ks, k.length = dd ∧ TS.Bd B k) ∧
  ∀ (L : List (Addr × List Int)) (p : Addr), (L.map (·.2)).Perm ks → (L.map (·.2)).Nodup → L.Pairwise (fun q r => TS.code B q.2 ≤ TS.code B r.2) → (∀ q ∈ L, H q.1 = some (.tup (q.2.map V.int))) → H p = none → Q (.ref p) (upd H p (.lst (L.map fun q => V.ref q.1)))
theorem kVl_ints (k : List Int) : ((k.map Sum.inl : List Key)).map kV = k.map V.int := by
  rw [List.map_map]
  rfl
theorem inl_inj : ∀ {a b : List Int}, (a.map Sum.inl : List Key) = b.map Sum.inl → a = b
  | [], [], _ => rfl
  | [], _ :: _, e => by cases e
  | _ :: _, [], e => by cases e
  | x :: a, y :: b, e => by
    rw [List.map_cons, List.map_cons] at e
    injection e with e1 e2
    injection e1 with e1
    rw [e1, inl_inj e2]
section
variable {X : Cx}
theorem cr_sortedD (hc : X.calm = true) {dd : Nat} {B : Int} (hd : 1 ≤ dd) : CallR X (.builtin "sorted") (rSortD dd B) := by
  intro pins s σ H vs us Q I r h
  obtain ⟨a, kvs, ks, rfl, ha, ek, hB, q⟩ := h
  rw [Vals.ref1 r]
  obtain ⟨z, lo, xs, pr, o, es, ep, ho, hx, hdt, he, hn⟩ := (show ObjOk X.prog X.w H s.heap a (.dT kvs) from I.hok a _ ha)
  have l1 : es.size = xs.length := size_of_entries he
  have l2 : kvs.length = xs.length := Paired.length pr
  have l3 : ks.length = xs.length := by
    have := congrArg List.length ek
    rw [List.length_map, List.length_map] at this
    omega
  -- each key: its tuple
  have at_ : ∀ (j : Nat) (x : List Key × Addr × Value), xs[j]? = some x → ∃ k, ks[j]? = some k ∧ x.1 = k.map Sum.inl ∧ H x.2.1 = some (.tup (k.map V.int)) := by
    intro j x hj
    obtain ⟨p, hp, r1, r2, r3⟩ := DX.pget pr hj
    have e1 : (kvs.map (·.1))[j]? = some p.1 := by rw [List.getElem?_map, hp]; rfl
    rw [ek, List.getElem?_map] at e1
    cases hk : ks[j]? with
    | none =>
      rw [hk] at e1
      exact nomatch (show (none : Option (List Key)) = some p.1 from e1)
    | some k =>
      rw [hk] at e1
      have e2 : k.map Sum.inl = p.1 := Option.some.inj e1
      refine ⟨k, rfl, by rw [← r1, e2], ?_⟩
      rw [r2, ← e2, kVl_ints]
  have key_at : ∀ (j : Nat) (v : Value), (∃ en : DictEntry, es[j]? = some en ∧ v = en.key) → ∃ x, xs[j]? = some x ∧ v = Value.ref x.2.1 := by
    rintro j v ⟨en, hen, rfl⟩
    have qe := entry_at he j
    rw [hen] at qe
    cases hb : xs[j]? with
    | none =>
      rw [hb] at qe
      exact nomatch (show some en = none from qe)
    | some b =>
      rw [hb] at qe
      have e2 : en = entryOfKey (tupleKind (mixKind X.prog X.w)) b := Option.some.inj qe
      exact ⟨b, rfl, by rw [e2]; rfl⟩
  have tup : ∀ (j : Nat) (x : List Key × Addr × Value) (k : List Int), xs[j]? = some x → ks[j]? = some k → TS.TupInts s.heap (.ref x.2.1) k := by
    intro j x k hj hk
    obtain ⟨k', hk', _, ht⟩ := at_ j x hj
    rw [hk] at hk'
    cases hk'
    exact tupInts_of (P := X.prog) (w := X.w) (I.isT (SqT.of ht))
  have okT : ∀ vs : List Value, vs.length = es.size → (∀ (j : Nat) (v : Value), vs[j]? = some v → ∃ en : DictEntry, es[j]? = some en ∧ v = en.key) → TS.TupsOk s.heap dd B vs := by
    intro vs hl hv v hm
    obtain ⟨j, hj⟩ := List.mem_iff_getElem?.mp hm
    obtain ⟨x, hx, rfl⟩ := key_at j v (hv j v hj)
    obtain ⟨k, hk, _⟩ := at_ j x hx
    exact ⟨k, tup j x k hx hk, hB k (List.mem_of_getElem? hk)⟩
  refine SD.sortedK (kdl_raw lo hx hdt) (I.ok.hd hc) ho (by omega) hd okT fun h' tk p out c vs hk hp hg hl hv pm pw => ?_
  -- the keys with their tuples
  have hL : ((xs.map fun x => x.2.1).zip ks).map (fun q => Value.ref q.1) = vs := by
    apply List.ext_getElem?
    intro j
    rw [List.getElem?_map]
    cases hj : vs[j]? with
    | none =>
      have h1 := List.getElem?_eq_none_iff.mp hj
      rw [List.getElem?_eq_none (by rw [List.length_zip, List.length_map]; omega)]
      rfl
    | some v =>
      obtain ⟨x, hx, rfl⟩ := key_at j v (hv j v hj)
      obtain ⟨k, hk, _⟩ := at_ j x hx
      have : ((xs.map fun x => x.2.1).zip ks)[j]? = some (x.2.1, k) := List.getElem?_zip_eq_some.mpr ⟨by rw [List.getElem?_map, hx]; rfl, hk⟩
      rw [this]
      rfl
  obtain ⟨L, pL, eL⟩ := perm_lift (fun q : Addr × List Int => Value.ref q.1) pm ((xs.map fun x => x.2.1).zip ks) hL
  have inL : ∀ y ∈ L, ∃ (j : Nat) (x : List Key × Addr × Value), xs[j]? = some x ∧ ks[j]? = some y.2 ∧ y.1 = x.2.1 := by
    intro y hy
    obtain ⟨j, hj⟩ := List.mem_iff_getElem?.mp (pL.mem_iff.mp hy)
    obtain ⟨h1, h2⟩ := List.getElem?_zip_eq_some.mp hj
    rw [List.getElem?_map] at h1
    cases hx : xs[j]? with
    | none =>
      rw [hx] at h1
      exact nomatch (show (none : Option Addr) = some y.1 from h1)
    | some x =>
      rw [hx] at h1
      exact ⟨j, x, hx, h2, (Option.some.inj h1).symm⟩
  have p2 : (L.map (·.2)).Perm ks := by
    have e := pL.map (·.2)
    have m2 : ((xs.map fun x => x.2.1).zip ks).map (·.2) = ks := List.map_snd_zip (by rw [List.length_map]; omega)
    rw [m2] at e
    exact e
  have nk : ks.Nodup := by
    have e1 : xs.map (·.1) = ks.map (fun k => k.map Sum.inl) := by
      rw [← ek]
      apply List.ext_getElem?
      intro j
      rw [List.getElem?_map, List.getElem?_map]
      cases hj : xs[j]? with
      | none =>
        have h1 := List.getElem?_eq_none_iff.mp hj
        rw [List.getElem?_eq_none (by omega)]
        rfl
      | some x =>
        obtain ⟨p, hp, r1, _⟩ := DX.pget pr hj
        rw [hp]
        show some x.1 = some p.1
        rw [r1]
    rw [e1] at hn
    exact List.Pairwise.of_map _ (fun a b hne e => hne (by rw [e])) hn
  have pwL : L.Pairwise (fun q r => TS.code B q.2 ≤ TS.code B r.2) := by
    rw [← eL, List.pairwise_map] at pw
    refine List.Pairwise.imp_of_mem (fun {y u} hy hu hle => ?_) pw
    obtain ⟨j, x, h1, h2, h3⟩ := inL y hy
    obtain ⟨j', x', h1', h2', h3'⟩ := inL u hu
    have f1 : TS.intsOf s.heap (.ref y.1) = y.2 := by rw [h3]; exact (tup j x _ h1 h2).ints
    have f2 : TS.intsOf s.heap (.ref u.1) = u.2 := by rw [h3']; exact (tup j' x' _ h1' h2').ints
    rw [← f1, ← f2]
    exact hle
  have hn0 : H p = none := I.hok.fresh hp
  have hlen : (L.map fun q => V.ref q.1).length ≤ sizeLine := by
    have := p2.length_eq
    rw [List.length_map] at this ⊢
    omega
  have rv : Vals (L.map fun q => V.ref q.1) out.toList := by
    rw [← eL]
    exact vals_of_refs L
  exact ⟨.ref p, _, I.laid (a := p) (t' := tk) (o := .lst (L.map fun q => V.ref q.1)) hk hp ⟨hlen, out.toList, c, rv, hg⟩, rfl, q L p p2 (p2.nodup_iff.mpr nk) pwL (fun y hy => by
    obtain ⟨j, x, h1, h2, h3⟩ := inL y hy
    obtain ⟨k, hk', _, ht⟩ := at_ j x h1
    rw [h2] at hk'
    cases hk'
    rw [h3]
    exact ht) hn0⟩
end
end L2

set_option Elab.async false
set_option linter.all false
set_option maxRecDepth 100000
set_option maxHeartbeats 8000000
namespace J
open PySem PySem.Spec PyProof.Rows L2
/-! ### an own error with two fields -/
def spXI2 (C : Addr) (f g : Str) : Sp := fun vs H Q _ => ∃ (a : Addr) (v u : V), vs = [.ref a, v, u] ∧ H a = some (exo a C none) ∧ ∀ dx, H dx = none → dx ≠ a → Q .non (upd (upd (upd H dx (exd dx [(f, v)])) a (exo a C (some dx))) dx (exd dx [(g, u), (f, v)]))
structure Ex2 (P : Program) (w : World) (K : PySem.W.Frag) (mg : Str → Option Value) (base : Heap) (x f g : Str) (C fI : Addr) (fd : FuncData) (ps : List Str) : Prop where
  o : OexC K C
  i : PySem.W.findIn K (.ref C) "__init__" = some (some (.ref fI))
  t : PySem.W.typeIn K (.ref fI) = some (.type "function")
  F : FnOk P w K mg base CX0 1 fI fd ps (spXI2 C f g)
  b : Binds K fd ps []
  m : mg x = some (.ref C)
  xf : XfC K C
  no1 : PySem.W.findIn K (.ref C) f = some none
  no2 : PySem.W.findIn K (.ref C) g = some none
  te : PySem.W.exmOne K (.ref C) (.ref C) = some true
def Tells2 (H : Hp) (C : Addr) (f g : Str) (v u : V) (E : XK) : Prop := ∀ d H', H d = none → Same H H' → H' d = some (.xd [(g, u), (f, v)]) → E (.ref C) (some d) H'
theorem Tells2.mono {H H1 : Hp} {C : Addr} {f g : Str} {v u : V} {E : XK} (h : Tells2 H C f g v u E) (S : Same H H1) : Tells2 H1 C f g v u E := fun d H' n S1 e => h d H' (S.free n) (S.trans S1) e
theorem mkO_of2 {C : Addr} {f g : Str} {v u : V} {H : Hp} {Q : XK} (h : Tells2 H C f g v u Q) : [v, u].length ≤ 1000 ∧ ∀ a, H a = none → spXI2 C f g (.ref a :: ([v, u] ++ [])) (upd H a (exo a C none))
    (fun z H2 => z = .non ∧ ∃ (d : Addr) (fs : List (Str × V)), H2 a = some (exo a C (some d)) ∧ H2 d = some (exd d fs) ∧ H d = none ∧ Q (.ref C) (some d) (upd (del H2 a) d (.xd fs))) (fun _ _ _ => False) := by
  refine ⟨(by show 2 ≤ 1000; decide), fun a ha => ⟨a, v, u, rfl, upd_same, fun dx hdx ne => ⟨rfl, dx, [(g, u), (f, v)], ?_, upd_same, ?_, ?_⟩⟩⟩
  · rw [upd_ne ne.symm, upd_same]
  · rw [upd_ne ne] at hdx
    exact hdx
  · rw [upd_ne ne] at hdx
    refine h _ _ hdx (fun b o e => ?_) upd_same
    have n1 := ne_of_none e hdx
    have n2 := ne_of_none e ha
    rw [upd_ne n1, del_ne n2, upd_ne n1, upd_ne n2, upd_ne n1, upd_ne n2]
    exact e
def ShAll (H : Hp) : List V → List Sh → Prop := Paired fun x s => Is H x s ∧ Known H (items s)
theorem ShAll.keep {H H' : Hp} (S : Same H H') : ∀ {xs : List V} {ss : List Sh}, ShAll H xs ss → ShAll H' xs ss
  | _, _, .nil => .nil
  | _, _, .cons h t => .cons ⟨h.1.keep S, h.2.keep S⟩ (ShAll.keep S t)
theorem ShAll.at_ {H : Hp} : ∀ {xs : List V} {ss : List Sh} {j : Nat} {x : V}, ShAll H xs ss → xs[j]? = some x → ∃ s, ss[j]? = some s ∧ Is H x s ∧ Known H (items s)
  | _, _, _, _, .nil, e => by simp at e
  | _, _, 0, _, .cons h _, e => by
    simp at e
    subst e
    exact ⟨_, rfl, h⟩
  | _, _, j + 1, x, .cons _ t, e => by
    obtain ⟨s, a, b⟩ := ShAll.at_ (j := j) (x := x) t (by simpa using e)
    exact ⟨s, by simpa using a, b⟩
theorem ShAll.len {H : Hp} {xs : List V} {ss : List Sh} (h : ShAll H xs ss) : xs.length = ss.length := Paired.length h
structure TiX (K : PySem.W.Frag) (mg : Str → Option Value) (C : Addr) : Prop extends TiC K C where
  isc : C8.InsC K C
  nt : PySem.W.kitOne K (.type "tuple") (.ref C) = some false
  nl : PySem.W.kitOne K (.type "list") (.ref C) = some false
  nf : PySem.W.notFirst K C (.type "tuple") = true
  mT : mg "Ties" = some (.ref C)
abbrev s_BadBook_init : Stmt := inClass (top 7) 0
theorem sc_BadBook_init : FnScope ["self", "index", "what"] ["self", "index", "what"] (defScope s_BadBook_init) := ⟨rfl, rfl, rfl, by decide +kernel, rfl, by decide +kernel, by decide +kernel⟩
abbrev s_check_threes : Stmt := top 30
theorem sc_check_threes : FnScope ["ties", "threes", "word", "index", "three"] ["ties", "threes", "word"] (defScope s_check_threes) := ⟨rfl, rfl, rfl, by decide +kernel, rfl, by decide +kernel, by decide +kernel⟩
/-- how a wrong book is told -/
abbrev Told (H : Hp) (CB : Addr) (j : Int) (u : Str) (E : XK) : Prop := Tells2 H CB "index" "what" (.int j) (.str u) E
def spChk (C CB : Addr) : Sp := fun vs H Q E => ∃ (t v : V) (u : Str), vs = [t, v, .str u] ∧ (((∃ z xs, t = .ref z ∧ H z = some (.lst xs)) ∧ Told H CB 0 "ties" E) ∨
  (∃ (x : Addr) (ns : List Int) (s : Sh) (ss : List Sh), t = .ref x ∧ TiesAt C H x ns ∧ Is H v s ∧ ShAll H (items s) ss ∧ ((s.isL || s.isT) = false → Told H CB 0 u E) ∧
    (∀ (j : Nat) (s' : Sh), (s.isL || s.isT) = true → ss[j]? = some s' → threeB ns s' = false → (∀ (i : Nat) (s' : Sh), i < j → ss[i]? = some s' → threeB ns s' = true) → Told H CB (j : Nat) "three" E) ∧
    ((s.isL || s.isT) = true → (∀ s' ∈ ss, threeB ns s' = true) → ∀ H', Same H H' → Q .non H')))
section
variable {P : Program} {w : World} {K : PySem.W.Frag} {mg : Str → Option Value} {base : Heap}
theorem ok_BadBook_init {f C : Addr} {fd : FuncData} (F : Fun K "__init__" "BadBook.__init__" s_BadBook_init f fd) (o : OexC K C) (no1 : PySem.W.findIn K (.ref C) "index" = some none) (no2 : PySem.W.findIn K (.ref C) "what" = some none) :
    FnOk P w K mg base CX0 1 f fd ["self", "index", "what"] (spXI2 C "index" "what") := by
  refine F.ok sc_BadBook_init (fun vs H Q E h => ?_) (fun cdv A outer s H vs Q E hr h => ?_)
  · obtain ⟨x, s, u, rfl, _⟩ := h
    rfl
  · obtain ⟨a, v, u, rfl, ha, k⟩ := h
    refine ⟨_, pss_cons (ps_ost (pv 0) (pv 1)) (pss_one (ps_ost (pv 0) (pv 2))), ?_⟩
    refine ⟨_, rfl, _, rfl, a, C, rfl, o, no1, .inl ⟨ha, fun dx hdx ne => ?_⟩⟩
    refine ⟨_, rfl, _, rfl, a, C, rfl, o, no2, .inr ⟨dx, [("index", v)], upd_same, by rw [upd_ne ne, upd_same], (by show 1 ≤ 900; decide), ?_⟩⟩
    exact k dx hdx ne
theorem ok_check_threes {f C CB fS fH fI : Addr} {fd fdS fdH fdI : FuncData} (F : Fun K "_check_threes" "_check_threes" s_check_threes f fd) (T : TiX K mg C) (nis : mg "isinstance" = none) (ne : mg "enumerate" = none)
    (GS : Cal P w K mg base CX0 1 "is_sequence" fS fdS ["thing"] spSeq) (GI : Cal P w K mg base CX0 3 "is_three" fH fdH ["ties", "thing"] (spThree C)) (GB : Ex2 P w K mg base "BadBook" "index" "what" CB fI fdI ["self", "index", "what"]) :
    FnOk P w K mg base (L2.CX P w) 4 f fd ["ties", "threes", "word"] (spChk C CB) := by
  refine F.okX sc_check_threes (fun vs H Q E h => ?_) (fun cdv A outer s H vs Q E hr h => ?_)
  · obtain ⟨t, v, u, rfl, _⟩ := h
    rfl
  · obtain ⟨t, v, u, rfl, h⟩ := h
    have hr2 : Room 2 _ := hr.mono (by decide)
    rcases h with ⟨⟨z, xs, rfl, hz⟩, k⟩ | ⟨x, ns, sh, ss, rfl, hT, hv, hs, k1, k2, k3⟩
    · refine ⟨_, (pss_cons 
  (ps_if (pt_not (pt_val (pe_callB call_isi (by rfl) nis (by decide +kernel) (pa_cons (pv 0) (pa_cons (pe_glob (v := .ref C) rfl T.mT rfl) pa_nil))))) (pss_one (ps_raise rfl (takes_of rfl rfl rfl rfl) (pmk_oex GB.o GB.i GB.t GB.F hr2 GB.b .nil pass0 rfl GB.m (pa_cons pe_int (pa_cons pe_str pa_nil))))) pss_nil) (pss_cons 
  (ps_if (pt_not (pt_val (pcal GS hr pass0 (pa_cons (pv 1) pa_nil)))) (pss_one (ps_raise rfl (takes_of rfl rfl rfl rfl) (pmk_oex GB.o GB.i GB.t GB.F hr2 GB.b .nil pass0 rfl GB.m (pa_cons pe_int (pa_cons (pv 2) pa_nil))))) pss_nil) (pss_one 
  (ps_for (passes_of rfl) rfl (pi_enum (by rfl) ne (pa_cons (pv 1) pa_nil)) (pg_tup (by rfl) (pgs_cons (pg_name (i := 3) sc_check_threes.nd rfl (Or.inl rfl)) (pgs_cons (pg_name (i := 4) sc_check_threes.nd rfl (Or.inl rfl)) pgs_nil))) (pss_one 
    (ps_if (pt_not (pt_val (pcal GI hr pass0 (pa_cons (pv 0) (pa_cons (pv 4) pa_nil))))) (pss_one (ps_raise rfl (takes_of rfl rfl rfl rfl) (pmk_oex GB.o GB.i GB.t GB.F hr2 GB.b .nil pass0 rfl GB.m (pa_cons (pv 3) (pa_cons pe_str pa_nil))))) pss_nil)))))), ?_⟩
      exact ⟨_, rfl, _, _, _, _, false, rfl, .own C, .base (.lst hz), T.nl, _, rfl, iteT (mkO_of2 k)⟩
    obtain ⟨dx, tt, hx, htt⟩ := id hT
    cases sh with
    | sc w =>
      refine ⟨_, (pss_cons 
  (ps_if (pt_not (pt_val (pe_callB call_isi (by rfl) nis (by decide +kernel) (pa_cons (pv 0) (pa_cons (pe_glob (v := .ref C) rfl T.mT rfl) pa_nil))))) (pss_one (ps_raise rfl (takes_of rfl rfl rfl rfl) (pmk_oex GB.o GB.i GB.t GB.F hr2 GB.b .nil pass0 rfl GB.m (pa_cons pe_int (pa_cons pe_str pa_nil))))) pss_nil) (pss_cons 
  (ps_if (pt_not (pt_val (pcal GS hr pass0 (pa_cons (pv 1) pa_nil)))) (pss_one (ps_raise rfl (takes_of rfl rfl rfl rfl) (pmk_oex GB.o GB.i GB.t GB.F hr2 GB.b .nil pass0 rfl GB.m (pa_cons pe_int (pa_cons (pv 2) pa_nil))))) pss_nil) (pss_one 
  (ps_for (passes_of rfl) rfl (pi_enum (by rfl) ne (pa_cons (pv 1) pa_nil)) (pg_tup (by rfl) (pgs_cons (pg_name (i := 3) sc_check_threes.nd rfl (Or.inl rfl)) (pgs_cons (pg_name (i := 4) sc_check_threes.nd rfl (Or.inl rfl)) pgs_nil))) (pss_one 
    (ps_if (pt_not (pt_val (pcal GI hr pass0 (pa_cons (pv 0) (pa_cons (pv 4) pa_nil))))) (pss_one (ps_raise rfl (takes_of rfl rfl rfl rfl) (pmk_oex GB.o GB.i GB.t GB.F hr2 GB.b .nil pass0 rfl GB.m (pa_cons (pv 3) (pa_cons pe_str pa_nil))))) pss_nil)))))), ?_⟩
      refine ⟨_, rfl, _, _, _, _, true, rfl, .own C, .base (.ins hx T.cl T.isc.ha T.isc.hn T.isc.htk T.isc.hm), T.isc.me, _, rfl, iteF ?_⟩
      exact ⟨_, rfl, _, Sh.sc w, rfl, hv, fun H1 S1 => ⟨_, rfl, iteT ⟨_, rfl, mkO_of2 ((k1 rfl).mono S1)⟩⟩⟩
    | dk =>
      refine ⟨_, (pss_cons 
  (ps_if (pt_not (pt_val (pe_callB call_isi (by rfl) nis (by decide +kernel) (pa_cons (pv 0) (pa_cons (pe_glob (v := .ref C) rfl T.mT rfl) pa_nil))))) (pss_one (ps_raise rfl (takes_of rfl rfl rfl rfl) (pmk_oex GB.o GB.i GB.t GB.F hr2 GB.b .nil pass0 rfl GB.m (pa_cons pe_int (pa_cons pe_str pa_nil))))) pss_nil) (pss_cons 
  (ps_if (pt_not (pt_val (pcal GS hr pass0 (pa_cons (pv 1) pa_nil)))) (pss_one (ps_raise rfl (takes_of rfl rfl rfl rfl) (pmk_oex GB.o GB.i GB.t GB.F hr2 GB.b .nil pass0 rfl GB.m (pa_cons pe_int (pa_cons (pv 2) pa_nil))))) pss_nil) (pss_one 
  (ps_for (passes_of rfl) rfl (pi_enum (by rfl) ne (pa_cons (pv 1) pa_nil)) (pg_tup (by rfl) (pgs_cons (pg_name (i := 3) sc_check_threes.nd rfl (Or.inl rfl)) (pgs_cons (pg_name (i := 4) sc_check_threes.nd rfl (Or.inl rfl)) pgs_nil))) (pss_one 
    (ps_if (pt_not (pt_val (pcal GI hr pass0 (pa_cons (pv 0) (pa_cons (pv 4) pa_nil))))) (pss_one (ps_raise rfl (takes_of rfl rfl rfl rfl) (pmk_oex GB.o GB.i GB.t GB.F hr2 GB.b .nil pass0 rfl GB.m (pa_cons (pv 3) (pa_cons pe_str pa_nil))))) pss_nil)))))), ?_⟩
      refine ⟨_, rfl, _, _, _, _, true, rfl, .own C, .base (.ins hx T.cl T.isc.ha T.isc.hn T.isc.htk T.isc.hm), T.isc.me, _, rfl, iteF ?_⟩
      exact ⟨_, rfl, _, Sh.dk, rfl, hv, fun H1 S1 => ⟨_, rfl, iteT ⟨_, rfl, mkO_of2 ((k1 rfl).mono S1)⟩⟩⟩
    | lst xs =>
      obtain ⟨p, rfl, hp⟩ := hv
      refine ⟨_, (pss_cons 
  (ps_if (pt_not (pt_val (pe_callB call_isi (by rfl) nis (by decide +kernel) (pa_cons (pv 0) (pa_cons (pe_glob (v := .ref C) rfl T.mT rfl) pa_nil))))) (pss_one (ps_raise rfl (takes_of rfl rfl rfl rfl) (pmk_oex GB.o GB.i GB.t GB.F hr2 GB.b .nil pass0 rfl GB.m (pa_cons pe_int (pa_cons pe_str pa_nil))))) pss_nil) (pss_cons 
  (ps_if (pt_not (pt_val (pcal GS hr pass0 (pa_cons (pv 1) pa_nil)))) (pss_one (ps_raise rfl (takes_of rfl rfl rfl rfl) (pmk_oex GB.o GB.i GB.t GB.F hr2 GB.b .nil pass0 rfl GB.m (pa_cons pe_int (pa_cons (pv 2) pa_nil))))) pss_nil) (pss_one 
  (ps_for (passes_of rfl) rfl (pi_enum (by rfl) ne (pa_cons (pv 1) pa_nil)) (pg_tup (by rfl) (pgs_cons (pg_name (i := 3) sc_check_threes.nd rfl (Or.inl rfl)) (pgs_cons (pg_name (i := 4) sc_check_threes.nd rfl (Or.inl rfl)) pgs_nil))) (pss_one 
    (ps_if (pt_not (pt_val (pcal GI hr pass0 (pa_cons (pv 0) (pa_cons (pv 4) pa_nil))))) (pss_one (ps_raise rfl (takes_of rfl rfl rfl rfl) (pmk_oex GB.o GB.i GB.t GB.F hr2 GB.b .nil pass0 rfl GB.m (pa_cons (pv 3) (pa_cons pe_str pa_nil))))) pss_nil)))))), ?_⟩
      refine ⟨_, rfl, _, _, _, _, true, rfl, .own C, .base (.ins hx T.cl T.isc.ha T.isc.hn T.isc.htk T.isc.hm), T.isc.me, _, rfl, iteF ?_⟩
      refine ⟨_, rfl, _, Sh.lst xs, rfl, ⟨p, rfl, hp⟩, fun H1 S1 => ⟨_, rfl, iteF ?_⟩⟩
      have h1 := S1 _ _ hp
      refine ⟨_, rfl, p, xs, rfl, SqL.of h1, for_enum (K := K) (a := p) (xs := xs) (fun i σ H' => ∃ v3 v4 : Option V, σ = [some (.ref x), some (.ref p), some (.str u), v3, v4] ∧ Same H1 H' ∧ ∀ a s', a < i → ss[a]? = some s' → threeB ns s' = true)
        ⟨none, none, rfl, Same.refl _, fun a s' ha => absurd ha (Nat.not_lt_zero a)⟩ (fun i σ H' _ ⟨_, _, _, S, _⟩ => SqL.of (S _ _ h1)) ?_ ?_⟩
      · rintro i y σ H' T0 hy ⟨v3, v4, rfl, S3, hb⟩ hT0
        have S4 : Same H1 (upd H' T0 (.tup [.int (i : Nat), y])) := S3.trans (new_same hT0)
        refine ⟨T0, _, rfl, SqT.of upd_same, rfl, _, _, rfl, _, _, rfl, rfl, ?_⟩
        generalize upd H' T0 (.tup [.int (i : Nat), y]) = H4 at S4
        have SA := S1.trans S4
        obtain ⟨sy, esy, isy, kny⟩ := (hs.keep SA).at_ hy
        refine ⟨_, rfl, _, rfl, x, ns, y, sy, rfl, hT.keep SA, isy, kny, fun H5 S5 => ⟨_, rfl, ?_⟩⟩
        cases e : threeB ns sy with
        | false => exact iteT ⟨_, rfl, mkO_of2 ((k2 i sy rfl esy e hb).mono (SA.trans S5))⟩
        | true =>
          refine iteF ⟨_, _, rfl, S4.trans S5, fun a s' ha es => ?_⟩
          rcases Nat.lt_or_ge a i with h | h
          · exact hb a s' h es
          · obtain rfl : a = i := by omega
            rw [esy] at es
            obtain rfl := Option.some.inj es
            exact e
      · rintro σ H' ⟨v3, v4, rfl, S3, hb⟩
        refine k3 rfl (fun s' hm => ?_) _ (S1.trans S3)
        obtain ⟨j, hj⟩ := List.mem_iff_getElem?.mp hm
        have l := hs.len
        have lj := (List.getElem?_eq_some_iff.mp hj).1
        exact hb j s' (by show j < xs.length; have : (items (Sh.lst xs)).length = xs.length := rfl; omega) hj
    | tup xs =>
      obtain ⟨p, rfl, hp⟩ := hv
      refine ⟨_, (pss_cons 
  (ps_if (pt_not (pt_val (pe_callB call_isi (by rfl) nis (by decide +kernel) (pa_cons (pv 0) (pa_cons (pe_glob (v := .ref C) rfl T.mT rfl) pa_nil))))) (pss_one (ps_raise rfl (takes_of rfl rfl rfl rfl) (pmk_oex GB.o GB.i GB.t GB.F hr2 GB.b .nil pass0 rfl GB.m (pa_cons pe_int (pa_cons pe_str pa_nil))))) pss_nil) (pss_cons 
  (ps_if (pt_not (pt_val (pcal GS hr pass0 (pa_cons (pv 1) pa_nil)))) (pss_one (ps_raise rfl (takes_of rfl rfl rfl rfl) (pmk_oex GB.o GB.i GB.t GB.F hr2 GB.b .nil pass0 rfl GB.m (pa_cons pe_int (pa_cons (pv 2) pa_nil))))) pss_nil) (pss_one 
  (ps_for (passes_of rfl) rfl (pi_enumT (by rfl) ne (pa_cons (pv 1) pa_nil)) (pg_tup (by rfl) (pgs_cons (pg_name (i := 3) sc_check_threes.nd rfl (Or.inl rfl)) (pgs_cons (pg_name (i := 4) sc_check_threes.nd rfl (Or.inl rfl)) pgs_nil))) (pss_one 
    (ps_if (pt_not (pt_val (pcal GI hr pass0 (pa_cons (pv 0) (pa_cons (pv 4) pa_nil))))) (pss_one (ps_raise rfl (takes_of rfl rfl rfl rfl) (pmk_oex GB.o GB.i GB.t GB.F hr2 GB.b .nil pass0 rfl GB.m (pa_cons (pv 3) (pa_cons pe_str pa_nil))))) pss_nil)))))), ?_⟩
      refine ⟨_, rfl, _, _, _, _, true, rfl, .own C, .base (.ins hx T.cl T.isc.ha T.isc.hn T.isc.htk T.isc.hm), T.isc.me, _, rfl, iteF ?_⟩
      refine ⟨_, rfl, _, Sh.tup xs, rfl, ⟨p, rfl, hp⟩, fun H1 S1 => ⟨_, rfl, iteF ?_⟩⟩
      have h1 := S1 _ _ hp
      refine ⟨_, rfl, p, xs, rfl, SqT.of h1, for_enumT (K := K) (a := p) (xs := xs) (fun i σ H' => ∃ v3 v4 : Option V, σ = [some (.ref x), some (.ref p), some (.str u), v3, v4] ∧ Same H1 H' ∧ ∀ a s', a < i → ss[a]? = some s' → threeB ns s' = true)
        ⟨none, none, rfl, Same.refl _, fun a s' ha => absurd ha (Nat.not_lt_zero a)⟩ (fun i σ H' _ ⟨_, _, _, S, _⟩ => SqT.of (S _ _ h1)) ?_ ?_⟩
      · rintro i y σ H' T0 hy ⟨v3, v4, rfl, S3, hb⟩ hT0
        have S4 : Same H1 (upd H' T0 (.tup [.int (i : Nat), y])) := S3.trans (new_same hT0)
        refine ⟨T0, _, rfl, SqT.of upd_same, rfl, _, _, rfl, _, _, rfl, rfl, ?_⟩
        generalize upd H' T0 (.tup [.int (i : Nat), y]) = H4 at S4
        have SA := S1.trans S4
        obtain ⟨sy, esy, isy, kny⟩ := (hs.keep SA).at_ hy
        refine ⟨_, rfl, _, rfl, x, ns, y, sy, rfl, hT.keep SA, isy, kny, fun H5 S5 => ⟨_, rfl, ?_⟩⟩
        cases e : threeB ns sy with
        | false => exact iteT ⟨_, rfl, mkO_of2 ((k2 i sy rfl esy e hb).mono (SA.trans S5))⟩
        | true =>
          refine iteF ⟨_, _, rfl, S4.trans S5, fun a s' ha es => ?_⟩
          rcases Nat.lt_or_ge a i with h | h
          · exact hb a s' h es
          · obtain rfl : a = i := by omega
            rw [esy] at es
            obtain rfl := Option.some.inj es
            exact e
      · rintro σ H' ⟨v3, v4, rfl, S3, hb⟩
        refine k3 rfl (fun s' hm => ?_) _ (S1.trans S3)
        obtain ⟨j, hj⟩ := List.mem_iff_getElem?.mp hm
        have l := hs.len
        have lj := (List.getElem?_eq_some_iff.mp hj).1
        exact hb j s' (by show j < xs.length; have : (items (Sh.tup xs)).length = xs.length := rfl; omega) hj
end
end J

set_option Elab.async false
set_option linter.all false
set_option maxRecDepth 100000
set_option maxHeartbeats 4000000
/-! range objects as values that are walked; in, not in of tuples -/
namespace L2
open PySem PySem.Spec PyProof.Rows
section
variable {X : Cx} {tg : Expr}
theorem cr_range1 : CallR X (.type "range") (fun vs H Q => ∃ j, vs = [V.int j] ∧ ∀ p, H p = none → Q (.ref p) (upd H p (.rng 0 j))) := by
  intro pins s σ H vs us Q I r h
  obtain ⟨j, rfl, q⟩ := h
  obtain ⟨u1, rfl, ri⟩ := vals1 r
  obtain ⟨t, rfl⟩ := ri
  refine call_range_1 ⟨.ref s.heap.objs.size, upd H s.heap.objs.size (.rng 0 j), I.laid (t' := s.toks + 2) (fun b o e => Heap.get?_push_of_some _ e) (Nat.le_refl _) ?_, rfl, q _ (I.hok.fresh (Nat.le_refl _))⟩
  exact ⟨_, _, _, Heap.get?_push_size _ rfl⟩
def iRngO (tl : TE) : TI := fun σ H R => tl σ H fun x H1 => ∃ (a : Addr) (n : Nat), x = .ref a ∧ H1 a = some (.rng 0 (n : Nat)) ∧ n ≤ 1000 ∧ R (Itr 0 n) H1
theorem pi_rngO {l : Expr} {tl : TE} (hl : PE X l tl) : PI X tg l (iRngO tl) := by
  refine ⟨fun pins s σ H R I h => ?_⟩
  refine thn (hl.run pins s σ H _ I h) fun v s1 ⟨x, H1, I1, r1, q1⟩ => ?_
  obtain ⟨a, n, e, ha, hn, q⟩ := q1
  subst e
  cases r1
  obtain ⟨t, u, w, ho⟩ := (show ∃ t u v, s1.heap.get? a = some { cls := .type "range", data := .fields #[.int 0 t, .int (n : Nat) u, .int 1 v] } from I1.hok a _ ha)
  refine wpAny_pyIter_range (show IsRange s1.heap a 0 (n : Nat) 1 t u w from ho) (small_one (by omega) (by omega) (by omega) (by omega)) ?_
  refine ⟨s1.heap.objs.size, [s1.heap.objs.size], _, _, H1, rfl, I1.kept (t' := s1.toks) fun b o e => Heap.get?_push_of_some _ e, turn_range _ 0 n, ?_, fun b hb => ?_, q⟩
  · have e1 : (0 : Int) + ((0 : Nat) : Int) * 1 = 0 := by simp
    have e2 : (n : Int) - ((0 : Nat) : Int) = Builtin.Range.rangeSize 0 (n : Nat) 1 := by rw [rangeSize_one]; split <;> omega
    show IsRangeIter _ _ (0 + ((0 : Nat) : Int) * 1) ((n : Int) - ((0 : Nat) : Int)) 1
    rw [e1, e2]
    exact Heap.get?_push_size _ rfl
  · have e : b = s1.heap.objs.size := by simpa using hb
    subst e
    exact I1.fpOk (Nat.le_refl _) (I1.hok.fresh (Nat.le_refl _))
def rInDT (K : PySem.W.Frag) : R2 := fun x y H Q => ∃ d ds, Dp K H x d ∧ Dp K H y (.tuple ds) ∧ SeqAt.shaped d = true ∧ SeqAt.shaped (.tuple ds) = true ∧ Q (.bl (ds.any fun z => PyData.eqv z d)) H
def rNotInDT (K : PySem.W.Frag) : R2 := fun x y H Q => ∃ d ds, Dp K H x d ∧ Dp K H y (.tuple ds) ∧ SeqAt.shaped d = true ∧ SeqAt.shaped (.tuple ds) = true ∧ Q (.bl (!ds.any fun z => PyData.eqv z d)) H
theorem op_inDT (hu : X.A.units + 65 < cLine) : OpR X (compareOp .In) (rInDT X.K) := by
  intro pins s σ H x y v u Q I rx ry h
  obtain ⟨d, ds, hd, he, sd, se, q⟩ := h
  obtain ⟨as, r1⟩ := Dp.reads I d x v hd rx
  obtain ⟨bs, r2⟩ := Dp.reads I (.tuple ds) y u he ry
  exact SeqAt.in_tuple_reads r2 r1 (SeqAt.canLay_of_shaped se) (SeqAt.canLay_of_shaped sd) (room_in_shaped sd hu) ⟨.bl _, H, I, rfl, q⟩
theorem op_notInDT (hu : X.A.units + 65 < cLine) : OpR X (compareOp .NotIn) (rNotInDT X.K) := by
  intro pins s σ H x y v u Q I rx ry h
  obtain ⟨d, ds, hd, he, sd, se, q⟩ := h
  obtain ⟨as, r1⟩ := Dp.reads I d x v hd rx
  obtain ⟨bs, r2⟩ := Dp.reads I (.tuple ds) y u he ry
  exact SeqAt.notIn_tuple_reads r2 r1 (SeqAt.canLay_of_shaped se) (SeqAt.canLay_of_shaped sd) (room_in_shaped sd hu) ⟨.bl _, H, I, rfl, q⟩
end
end L2

set_option Elab.async false
set_option linter.all false
set_option maxRecDepth 100000
set_option maxHeartbeats 8000000
namespace J
open PySem PySem.Spec PyProof.Rows L2
/-! ### all readings of given threes: the mathematics -/
def inR (ns : List Int) (t : List Int) : List Int → Bool
  | [p, q, r] => decide (t ∈ six ns p q r)
  | _ => false
/-- the threes that are barred with ts, ascending -/
def brd (ns : List Int) (ts : List (List Int)) : List (List Int) := (A3 ns.length ns.length).filter fun t => ts.any (inR ns t)
theorem inR_A3 {ns : List Int} {t u : List Int} (g : GoodB ns) (hu : u ∈ A3 ns.length ns.length) (h : inR ns t u = true) : t ∈ A3 ns.length ns.length := by
  obtain ⟨p, q, r, rfl, ip, iq, ir⟩ := A3_in hu (ns := ns) rfl
  obtain ⟨a, b, c, rfl, ia, ib, ic⟩ := six_in g ip iq ir t (of_decide_eq_true h)
  exact in_A3 ia ib ic
theorem brd_mem {ns : List Int} {ts : List (List Int)} {t : List Int} (g : GoodB ns) (ha : ∀ u ∈ ts, u ∈ A3 ns.length ns.length) : t ∈ brd ns ts ↔ ∃ u ∈ ts, inR ns t u = true := by
  unfold brd
  rw [List.mem_filter, List.any_eq_true]
  exact ⟨fun h => h.2, fun ⟨u, hu, e⟩ => ⟨inR_A3 g (ha u hu) e, u, hu, e⟩⟩
theorem brd_of {ns : List Int} {ts L : List (List Int)} (g : GoodB ns) (ha : ∀ u ∈ ts, u ∈ A3 ns.length ns.length) (pw : L.Pairwise (fun a b => TS.code 4 a < TS.code 4 b)) (mem : ∀ t, t ∈ L ↔ ∃ u ∈ ts, inR ns t u = true) : L = brd ns ts :=
  asc_unique (f := TS.code 4) pw ((A3_asc _ g.hi).sublist List.filter_sublist) fun t => by rw [mem, brd_mem g ha]
theorem A3_bd {n : Nat} {t : List Int} (hn : n ≤ 4) (h : t ∈ A3 n n) : t.length = 3 ∧ TS.Bd 4 t := by
  obtain ⟨p, q, r, hp, hq, hr, rfl⟩ := A3_mem.mp h
  refine ⟨rfl, fun m hm => ?_⟩
  simp only [List.mem_cons, List.not_mem_nil, or_false] at hm
  rcases hm with rfl | rfl | rfl <;> omega
/-- the keys of a dict -/
def KeysAre (kvs : List (List Key × V)) (ks : List (List Int)) : Prop := kvs.map (·.1) = ks.map (fun k => (k.map Sum.inl : List Key))
theorem keys_put {kvs : List (List Key × V)} {ks : List (List Int)} {k : List Int} {v : V} (h : KeysAre kvs ks) : KeysAre (putK kvs (k.map Sum.inl) v) (if k ∈ ks then ks else ks ++ [k]) := by
  unfold KeysAre at h ⊢
  have e : (kvs.any fun kv => decide (kv.1 = k.map Sum.inl)) = decide (k ∈ ks) := by
    rw [Bool.eq_iff_iff, List.any_eq_true, decide_eq_true_iff]
    constructor
    · rintro ⟨kv, hm, e⟩
      have e := of_decide_eq_true e
      have m : kv.1 ∈ kvs.map (·.1) := List.mem_map_of_mem hm
      rw [h, e] at m
      obtain ⟨k', hk', e2⟩ := List.mem_map.mp m
      rw [← inl_inj e2]
      exact hk'
    · intro hm
      have m : (k.map Sum.inl : List Key) ∈ kvs.map (·.1) := by
        rw [h]
        exact List.mem_map_of_mem hm
      obtain ⟨kv, hkv, e2⟩ := List.mem_map.mp m
      exact ⟨kv, hkv, decide_eq_true e2⟩
  unfold putK
  rw [e]
  by_cases c : k ∈ ks
  · rw [if_pos (decide_eq_true c), if_pos c, List.map_map, ← h]
    refine List.map_congr_left fun kv _ => ?_
    show (if kv.1 = k.map Sum.inl then (kv.1, v) else kv).1 = kv.1
    split <;> rfl
  · rw [if_neg (fun z => c (of_decide_eq_true z)), if_neg c, List.map_append, List.map_append, h]
    rfl
theorem keys_len {kvs : List (List Key × V)} {ks : List (List Int)} (h : KeysAre kvs ks) : kvs.length = ks.length := by
  have := congrArg List.length h
  rwa [List.length_map, List.length_map] at this
/-- things that are threes -/
def ThrAt (H : Hp) (xs : List V) (ts : List (List Int)) : Prop := Paired (fun x t => ∃ s, Is H x s ∧ (s.isL || s.isT) = true ∧ items s = t.map V.int) xs ts
theorem ThrAt.keep {H H' : Hp} {xs : List V} {ts : List (List Int)} (h : ThrAt H xs ts) (S : Same H H') : ThrAt H' xs ts := Paired.mapP h fun x t ⟨s, a, b, c⟩ => ⟨s, a.keep S, b, c⟩
theorem ThrAt.len {H : Hp} {xs : List V} {ts : List (List Int)} (h : ThrAt H xs ts) : xs.length = ts.length := Paired.length h
theorem paired_at {α β : Type} {F : α → β → Prop} : ∀ {xs : List α} {ts : List β} {j : Nat} {x : α}, Paired F xs ts → xs[j]? = some x → ∃ t, ts[j]? = some t ∧ F x t
  | _, _, _, _, .nil, e => by simp at e
  | _, _, 0, _, .cons r _, e => ⟨_, rfl, by rw [← Option.some.inj e]; exact r⟩
  | _, _, j + 1, _, .cons _ t, e => by
    obtain ⟨y, h1, h2⟩ := paired_at (j := j) t (by simpa using e)
    exact ⟨y, by simpa using h1, h2⟩
/-- the dict while it grows -/
structure Dct (n : Nat) (H1 H : Hp) (D : Addr) (ks : List (List Int)) : Prop where
  S : Same H1 H
  f : H1 D = none
  nd : ks.Nodup
  A : ∀ k ∈ ks, k ∈ A3 n n
  d : ∃ kvs, H D = some (.dT kvs) ∧ KeysAre kvs ks
theorem Dct.keep {n : Nat} {H1 H H' : Hp} {D : Addr} {ks : List (List Int)} (G : Dct n H1 H D ks) (S : Same H H') : Dct n H1 H' D ks := by
  obtain ⟨a, b, c, d, kvs, e, f⟩ := G
  exact ⟨a.trans S, b, c, d, kvs, S _ _ e, f⟩
theorem Dct.put {n : Nat} {H1 H : Hp} {D a : Addr} {ks : List (List Int)} {k : List Int} {v : V} (hn : n ≤ 4) (G : Dct n H1 H D ks) (ha : H a = some (.tup (k.map V.int))) (hk : k ∈ A3 n n) : ∃ H', DPut H D (.ref a) v H' ∧ Dct n H1 H' D (if k ∈ ks then ks else ks ++ [k]) := by
  obtain ⟨S, f, nd, A, kvs, e, K⟩ := G
  have l : kvs.length ≤ 64 := by
    rw [keys_len K]
    exact Nat.le_trans (len_sub nd A) (A3_len n hn)
  refine ⟨_, DPut.t (k := k.map Sum.inl) e (by rw [kVl_ints]; exact ha) (by rw [sizeLine_eq]; omega), fun b o eb => ?_, f, ?_, ?_, _, upd_same, keys_put K⟩
  · rw [upd_ne (ne_of_none eb f)]
    exact S _ _ eb
  · split
    · exact nd
    · rename_i c
      exact nd_snoc nd c
  · intro u hu
    split at hu
    · exact A u hu
    · rcases List.mem_append.mp hu with h | h
      · exact A u h
      · rw [List.mem_singleton.mp h]
        exact hk
theorem put_mem {ks : List (List Int)} {k t : List Int} : t ∈ (if k ∈ ks then ks else ks ++ [k]) ↔ t ∈ ks ∨ t = k := by
  split
  · rename_i c
    exact ⟨.inl, fun h => h.elim id (fun e => e ▸ c)⟩
  · rw [List.mem_append, List.mem_singleton]
theorem un1 {k : Nat} {A : Around} (r : Room k A) : A.units + 1 < cLine := by have := r.un; omega
abbrev s_with_readings : Stmt := top 31
theorem sc_with_readings : FnScope ["ties", "threes", "readings", "three", "reading"] ["ties", "threes"] (defScope s_with_readings) := ⟨rfl, rfl, rfl, by decide +kernel, rfl, by decide +kernel, by decide +kernel⟩
def spWith (C : Addr) : Sp := fun vs H Q _ => ∃ (x : Addr) (ns : List Int) (v : V) (s : Sh) (ts : List (List Int)), vs = [.ref x, v] ∧ TiesAt C H x ns ∧ GoodB ns ∧ Is H v s ∧ (s.isL || s.isT) = true ∧ ThrAt H (items s) ts ∧ (∀ t ∈ ts, t ∈ A3 ns.length ns.length) ∧
  ∀ (H' : Hp) (z : Addr), Same H H' → H z = none → TupsAt H' z (brd ns ts) → Q (.ref z) H'
section
variable {P : Program} {w : World} {K : PySem.W.Frag} {mg : Str → Option Value} {base : Heap}
theorem ok_with_readings {f C CT fR : Addr} {fd fdR : FuncData} (F : Fun K "_with_readings" "_with_readings" s_with_readings f fd) (nt : mg "tuple" = none) (nso : mg "sorted" = none)
    (GR : Cal P w K mg base (L2.CX P w) 4 "readings_of" fR fdR ["ties", "three"] (spReadings C CT)) : FnOk P w K mg base CX0 5 f fd ["ties", "threes"] (spWith C) := by
  refine F.ok sc_with_readings (fun vs H Q E h => ?_) (fun cdv A outer s H vs Q E hr h => ?_)
  · obtain ⟨x, ns, v, s, ts, rfl, _⟩ := h
    rfl
  · obtain ⟨x, ns, v, sh, ts, rfl, hT, gb, hv, hq, hth, hA, k⟩ := h
    cases sh with
    | sc u => cases hq
    | dk => cases hq
    | lst xs =>
      obtain ⟨p0, rfl, hp⟩ := hv
      have h4 := gb.hi
      refine ⟨_, (pss_cons 
  (ps_set (i := 2) sc_with_readings.nd rfl (Or.inl rfl) pe_dnewT) (pss_cons 
  (ps_for PassesOwn.never rfl (pi_list (pv 1)) (pg_name (i := 3) sc_with_readings.nd rfl (Or.inl rfl)) (pss_one 
    (ps_for PassesOwn.never rfl (pi_tup (pcal GR hr passL (pa_cons (pv 0) (pa_cons (pv 3) pa_nil)))) (pg_name (i := 4) sc_with_readings.nd rfl (Or.inl rfl)) (pss_one 
      (ps_asg pe_bl (pg_sub (pv 2) (pv 4) (set_dict (un1 hr)))))))) (pss_one 
  (ps_ret (pe_callTy (T := "tuple") (r := rTup K) call_tuple_of (by rfl) nt (by decide +kernel) (pa_cons (pe_callB (r := rSortD 3 4) (cr_sortedD rfl (by decide)) (by rfl) nso (by decide +kernel) (pa_cons (pv 2) pa_nil)) pa_nil)))))), ?_⟩
      refine fun D hD => ?_
      have S0 : Same H (upd H D (.dT [])) := new_same hD
      have hp1 := S0 _ _ hp
      refine ⟨_, rfl, p0, rfl, ⟨xs, SqL.of hp1⟩, for_list (K := K) (a := p0) (xs := xs) (fun i σ H' => ∃ (v3 v4 : Option V) (ks : List (List Int)), σ = [some (.ref x), some (.ref p0), some (.ref D), v3, v4] ∧ Dct ns.length H H' D ks ∧ ∀ t, t ∈ ks ↔ ∃ u ∈ ts.take i, inR ns t u = true)
        ⟨none, none, [], rfl, ⟨S0, hD, List.nodup_nil, fun k hk => by (cases hk), [], upd_same, rfl⟩, fun t => ⟨fun h => by (cases h), fun ⟨u, hu, _⟩ => by simp at hu⟩⟩ (fun i σ H' _ ⟨_, _, _, _, G, _⟩ => SqL.of (G.S _ _ hp)) ?_ ?_⟩
      · rintro i y σ H2 hy ⟨v3, v4, ks, rfl, G, hk⟩
        obtain ⟨t, et, sy, isy, sq, iy⟩ := paired_at (hth.keep G.S) hy
        have mt := hA t (List.mem_of_getElem? et)
        obtain ⟨p, q, r, rfl, ip, iq, ir⟩ := A3_in mt (ns := ns) rfl
        refine ⟨_, rfl, _, rfl, x, ns, y, sy, rfl, hT.keep G.S, gb, isy, known_ints iy, fun e => absurd (three_yes iy sq ip iq ir) (by rw [e]; decide), fun p' q' r' e' ip' iq' ir' H3 z L S3 nz hz R => ?_⟩
        obtain ⟨rfl, rfl, rfl⟩ := ints3 iy e'
        obtain ⟨ps, z1, z2, z3⟩ := hz
        have G3 := G.keep S3
        have z1D : z ≠ D := fun e => by
          obtain ⟨_, _, _, _, kvs, eD, _⟩ := G
          rw [e, eD] at nz
          cases nz
        refine ⟨z, rfl, ⟨_, SqT.of z1⟩, for_tup (K := K) (a := z) (xs := ps.map V.ref) (fun j σ H' => ∃ (v4 : Option V) (ks' : List (List Int)), σ = [some (.ref x), some (.ref p0), some (.ref D), some y, v4] ∧ Dct ns.length H H' D ks' ∧ But D H3 H' ∧ ∀ t, t ∈ ks' ↔ (t ∈ ks ∨ t ∈ L.take j))
          ⟨_, ks, rfl, G3, But.refl _ _, fun t => by simp⟩ (fun j σ H' _ ⟨_, _, _, _, F', _⟩ => SqT.of (F' _ _ z1D z1)) ?_ ?_⟩
        · rintro j w σ H4 hw ⟨v4, ks', rfl, G4, F4, m4⟩
          rw [List.getElem?_map] at hw
          cases ea : ps[j]? with
          | none =>
            rw [ea] at hw
            cases hw
          | some a =>
            rw [ea] at hw
            obtain rfl : V.ref a = w := Option.some.inj hw
            have lj := (List.getElem?_eq_some_iff.mp ea).1
            have el : L[j]? = some L[j] := List.getElem?_eq_getElem (by omega)
            generalize L[j] = t at el
            have ha := z3 j a t ea el
            have mL := (R.2 t).mp (List.mem_of_getElem? el)
            have aD : a ≠ D := fun e => by
              obtain ⟨_, _, _, _, kvs, eD, _⟩ := G3
              rw [e, eD] at ha
              cases ha
            obtain ⟨H5, dp, G5⟩ := G4.put (v := .bl true) h4 (F4 _ _ aD ha) (inR_A3 gb mt (decide_eq_true mL))
            refine ⟨_, rfl, _, rfl, D, H5, rfl, dp, _, _, rfl, G5, fun b o nb eb => ?_, fun u => ?_⟩
            · have e4 := F4 b o nb eb
              rcases dp with ⟨kvs, k, q1, q2, q3, q4⟩ | ⟨kvs, k, b', q1, q2, q3, q4, q5⟩
              · rw [q4, upd_ne nb]
                exact e4
              · rw [q5, upd_ne nb]
                exact e4
            · rw [put_mem, m4 u, List.take_add_one, el, List.mem_append]
              simp [or_assoc]
        · rintro σ H4 ⟨v4, ks', rfl, G4, F4, m4⟩
          refine ⟨_, _, ks', rfl, G4, fun t => ?_⟩
          rw [m4 t, hk t, List.length_map, z2, List.take_length, R.2 t, List.take_add_one, et]
          constructor
          · rintro (⟨u, hu, e⟩ | h)
            · exact ⟨u, List.mem_append_left _ hu, e⟩
            · exact ⟨_, List.mem_append_right _ (List.mem_singleton.mpr rfl), decide_eq_true h⟩
          · rintro ⟨u, hu, e⟩
            rcases List.mem_append.mp hu with h | h
            · exact .inl ⟨u, h, e⟩
            · obtain rfl := List.mem_singleton.mp h
              exact .inr (of_decide_eq_true e)
      · rintro σ H2 ⟨v3, v4, ks, rfl, ⟨S2, f2, nd, A, kvs, eD, K2⟩, hk⟩
        rw [show xs.length = ts.length from hth.len, List.take_length] at hk
        refine ⟨_, rfl, D, kvs, ks, rfl, eD, K2, fun t ht => A3_bd h4 (A t ht), fun L p pm ndL pw hL np => ?_⟩
        refine ⟨p, _, rfl, .inl ⟨SqL.of upd_same, fun z hz => ?_⟩⟩
        have S3 : Same H2 (upd H2 p (.lst (L.map fun q => V.ref q.1))) := new_same np
        have S4 := S3.trans (new_same (o := .tup (L.map fun q => V.ref q.1)) hz)
        have hz0 : H z = none := same_free S2 (same_free S3 hz)
        have e : L.map (·.2) = brd ns ts := by
          refine brd_of gb hA ?_ fun t => by rw [pm.mem_iff, hk t]
          rw [List.pairwise_map]
          refine List.Pairwise.imp_of_mem (fun {a b} ma mb h => ?_) (List.Pairwise.and pw (List.pairwise_map.mp ndL))
          have b1 := A3_bd h4 (A _ (pm.mem_iff.mp (List.mem_map_of_mem ma)))
          have b2 := A3_bd h4 (A _ (pm.mem_iff.mp (List.mem_map_of_mem mb)))
          rcases Int.lt_or_eq_of_le h.1 with c | c
          · exact c
          · exact absurd (code_inj (by omega) b1.2 b2.2 c) h.2
        refine k _ z (S2.trans S4) hz0 ⟨L.map (·.1), by rw [upd_same, List.map_map]; rfl, by rw [← e, List.length_map, List.length_map], fun j a t q1 q2 => ?_⟩
        rw [← e, List.getElem?_map] at q2
        rw [List.getElem?_map] at q1
        cases el : L[j]? with
        | none =>
          rw [el] at q1
          cases q1
        | some y =>
          rw [el] at q1 q2
          obtain rfl := Option.some.inj q1
          obtain rfl := Option.some.inj q2
          exact S4 _ _ (hL y (List.mem_of_getElem? el))
    | tup xs =>
      obtain ⟨p0, rfl, hp⟩ := hv
      have h4 := gb.hi
      refine ⟨_, (pss_cons 
  (ps_set (i := 2) sc_with_readings.nd rfl (Or.inl rfl) pe_dnewT) (pss_cons 
  (ps_for PassesOwn.never rfl (pi_tup (pv 1)) (pg_name (i := 3) sc_with_readings.nd rfl (Or.inl rfl)) (pss_one 
    (ps_for PassesOwn.never rfl (pi_tup (pcal GR hr passL (pa_cons (pv 0) (pa_cons (pv 3) pa_nil)))) (pg_name (i := 4) sc_with_readings.nd rfl (Or.inl rfl)) (pss_one 
      (ps_asg pe_bl (pg_sub (pv 2) (pv 4) (set_dict (un1 hr)))))))) (pss_one 
  (ps_ret (pe_callTy (T := "tuple") (r := rTup K) call_tuple_of (by rfl) nt (by decide +kernel) (pa_cons (pe_callB (r := rSortD 3 4) (cr_sortedD rfl (by decide)) (by rfl) nso (by decide +kernel) (pa_cons (pv 2) pa_nil)) pa_nil)))))), ?_⟩
      refine fun D hD => ?_
      have S0 : Same H (upd H D (.dT [])) := new_same hD
      have hp1 := S0 _ _ hp
      refine ⟨_, rfl, p0, rfl, ⟨xs, SqT.of hp1⟩, for_tup (K := K) (a := p0) (xs := xs) (fun i σ H' => ∃ (v3 v4 : Option V) (ks : List (List Int)), σ = [some (.ref x), some (.ref p0), some (.ref D), v3, v4] ∧ Dct ns.length H H' D ks ∧ ∀ t, t ∈ ks ↔ ∃ u ∈ ts.take i, inR ns t u = true)
        ⟨none, none, [], rfl, ⟨S0, hD, List.nodup_nil, fun k hk => by (cases hk), [], upd_same, rfl⟩, fun t => ⟨fun h => by (cases h), fun ⟨u, hu, _⟩ => by simp at hu⟩⟩ (fun i σ H' _ ⟨_, _, _, _, G, _⟩ => SqT.of (G.S _ _ hp)) ?_ ?_⟩
      · rintro i y σ H2 hy ⟨v3, v4, ks, rfl, G, hk⟩
        obtain ⟨t, et, sy, isy, sq, iy⟩ := paired_at (hth.keep G.S) hy
        have mt := hA t (List.mem_of_getElem? et)
        obtain ⟨p, q, r, rfl, ip, iq, ir⟩ := A3_in mt (ns := ns) rfl
        refine ⟨_, rfl, _, rfl, x, ns, y, sy, rfl, hT.keep G.S, gb, isy, known_ints iy, fun e => absurd (three_yes iy sq ip iq ir) (by rw [e]; decide), fun p' q' r' e' ip' iq' ir' H3 z L S3 nz hz R => ?_⟩
        obtain ⟨rfl, rfl, rfl⟩ := ints3 iy e'
        obtain ⟨ps, z1, z2, z3⟩ := hz
        have G3 := G.keep S3
        have z1D : z ≠ D := fun e => by
          obtain ⟨_, _, _, _, kvs, eD, _⟩ := G
          rw [e, eD] at nz
          cases nz
        refine ⟨z, rfl, ⟨_, SqT.of z1⟩, for_tup (K := K) (a := z) (xs := ps.map V.ref) (fun j σ H' => ∃ (v4 : Option V) (ks' : List (List Int)), σ = [some (.ref x), some (.ref p0), some (.ref D), some y, v4] ∧ Dct ns.length H H' D ks' ∧ But D H3 H' ∧ ∀ t, t ∈ ks' ↔ (t ∈ ks ∨ t ∈ L.take j))
          ⟨_, ks, rfl, G3, But.refl _ _, fun t => by simp⟩ (fun j σ H' _ ⟨_, _, _, _, F', _⟩ => SqT.of (F' _ _ z1D z1)) ?_ ?_⟩
        · rintro j w σ H4 hw ⟨v4, ks', rfl, G4, F4, m4⟩
          rw [List.getElem?_map] at hw
          cases ea : ps[j]? with
          | none =>
            rw [ea] at hw
            cases hw
          | some a =>
            rw [ea] at hw
            obtain rfl : V.ref a = w := Option.some.inj hw
            have lj := (List.getElem?_eq_some_iff.mp ea).1
            have el : L[j]? = some L[j] := List.getElem?_eq_getElem (by omega)
            generalize L[j] = t at el
            have ha := z3 j a t ea el
            have mL := (R.2 t).mp (List.mem_of_getElem? el)
            have aD : a ≠ D := fun e => by
              obtain ⟨_, _, _, _, kvs, eD, _⟩ := G3
              rw [e, eD] at ha
              cases ha
            obtain ⟨H5, dp, G5⟩ := G4.put (v := .bl true) h4 (F4 _ _ aD ha) (inR_A3 gb mt (decide_eq_true mL))
            refine ⟨_, rfl, _, rfl, D, H5, rfl, dp, _, _, rfl, G5, fun b o nb eb => ?_, fun u => ?_⟩
            · have e4 := F4 b o nb eb
              rcases dp with ⟨kvs, k, q1, q2, q3, q4⟩ | ⟨kvs, k, b', q1, q2, q3, q4, q5⟩
              · rw [q4, upd_ne nb]
                exact e4
              · rw [q5, upd_ne nb]
                exact e4
            · rw [put_mem, m4 u, List.take_add_one, el, List.mem_append]
              simp [or_assoc]
        · rintro σ H4 ⟨v4, ks', rfl, G4, F4, m4⟩
          refine ⟨_, _, ks', rfl, G4, fun t => ?_⟩
          rw [m4 t, hk t, List.length_map, z2, List.take_length, R.2 t, List.take_add_one, et]
          constructor
          · rintro (⟨u, hu, e⟩ | h)
            · exact ⟨u, List.mem_append_left _ hu, e⟩
            · exact ⟨_, List.mem_append_right _ (List.mem_singleton.mpr rfl), decide_eq_true h⟩
          · rintro ⟨u, hu, e⟩
            rcases List.mem_append.mp hu with h | h
            · exact .inl ⟨u, h, e⟩
            · obtain rfl := List.mem_singleton.mp h
              exact .inr (of_decide_eq_true e)
      · rintro σ H2 ⟨v3, v4, ks, rfl, ⟨S2, f2, nd, A, kvs, eD, K2⟩, hk⟩
        rw [show xs.length = ts.length from hth.len, List.take_length] at hk
        refine ⟨_, rfl, D, kvs, ks, rfl, eD, K2, fun t ht => A3_bd h4 (A t ht), fun L p pm ndL pw hL np => ?_⟩
        refine ⟨p, _, rfl, .inl ⟨SqL.of upd_same, fun z hz => ?_⟩⟩
        have S3 : Same H2 (upd H2 p (.lst (L.map fun q => V.ref q.1))) := new_same np
        have S4 := S3.trans (new_same (o := .tup (L.map fun q => V.ref q.1)) hz)
        have hz0 : H z = none := same_free S2 (same_free S3 hz)
        have e : L.map (·.2) = brd ns ts := by
          refine brd_of gb hA ?_ fun t => by rw [pm.mem_iff, hk t]
          rw [List.pairwise_map]
          refine List.Pairwise.imp_of_mem (fun {a b} ma mb h => ?_) (List.Pairwise.and pw (List.pairwise_map.mp ndL))
          have b1 := A3_bd h4 (A _ (pm.mem_iff.mp (List.mem_map_of_mem ma)))
          have b2 := A3_bd h4 (A _ (pm.mem_iff.mp (List.mem_map_of_mem mb)))
          rcases Int.lt_or_eq_of_le h.1 with c | c
          · exact c
          · exact absurd (code_inj (by omega) b1.2 b2.2 c) h.2
        refine k _ z (S2.trans S4) hz0 ⟨L.map (·.1), by rw [upd_same, List.map_map]; rfl, by rw [← e, List.length_map, List.length_map], fun j a t q1 q2 => ?_⟩
        rw [← e, List.getElem?_map] at q2
        rw [List.getElem?_map] at q1
        cases el : L[j]? with
        | none =>
          rw [el] at q1
          cases q1
        | some y =>
          rw [el] at q1 q2
          obtain rfl := Option.some.inj q1
          obtain rfl := Option.some.inj q2
          exact S4 _ _ (hL y (List.mem_of_getElem? el))
end
end J

set_option Elab.async false
set_option linter.all false
set_option maxRecDepth 100000
set_option maxHeartbeats 8000000
namespace J
open PySem PySem.Spec PyProof.Rows L2
theorem take_filter {α : Type} {p : α → Bool} {l : List α} {i : Nat} {x : α} (h : l[i]? = some x) : (l.take (i + 1)).filter p = (l.take i).filter p ++ (if p x = true then [x] else []) := by
  rw [List.take_add_one, h, List.filter_append]
  show _ ++ [x].filter p = _
  by_cases c : p x = true
  · rw [if_pos c, List.filter_cons_of_pos c]
    rfl
  · rw [if_neg c, List.filter_cons_of_neg c]
    rfl
theorem shaped_tupsT (L : List (List Int)) : SeqAt.shaped (.tuple (tupsD L)) = true := by
  obtain ⟨a, b⟩ := lay_tupsD L
  show (PyData.canLay0 (.tuple (tupsD L)) && decide (PyData.depth (.tuple (tupsD L)) ≤ 64)) = true
  rw [Bool.and_eq_true]
  refine ⟨by simp only [PyData.canLay0]; exact a, decide_eq_true ?_⟩
  simp only [PyData.depth]
  omega
theorem TupsAt.data {K : PySem.W.Frag} {H : Hp} {z : Addr} {L : List (List Int)} (h : TupsAt H z L) : Dp K H (.ref z) (.tuple (tupsD L)) := by
  obtain ⟨ps, e1, e2, e3⟩ := h
  exact .tup (SqT.of e1) (dp_tupsD e2 e3)
/-- any three in a tuple of threes -/
theorem in_tups {K : PySem.W.Frag} {H : Hp} {z a : Addr} {L : List (List Int)} {t : List Int} (h : TupsAt H z L) (ha : H a = some (.tup (t.map V.int))) {Q : VK} (k : Q (.bl (decide (t ∈ L))) H) : rInDT K (.ref a) (.ref z) H Q :=
  ⟨_, _, .tup (SqT.of ha) (dp_ints t), h.data, shaped_ti t, shaped_tupsT L, by rw [any_tup]; exact k⟩
theorem notIn_tups {K : PySem.W.Frag} {H : Hp} {z a : Addr} {L : List (List Int)} {t : List Int} (h : TupsAt H z L) (ha : H a = some (.tup (t.map V.int))) {Q : VK} (k : Q (.bl (!decide (t ∈ L))) H) : rNotInDT K (.ref a) (.ref z) H Q :=
  ⟨_, _, .tup (SqT.of ha) (dp_ints t), h.data, shaped_ti t, shaped_tupsT L, by rw [any_tup]; exact k⟩
abbrev s_but : Stmt := top 32
theorem sc_but : FnScope ["threes", "others", "three"] ["threes", "others"] (defScope s_but) := ⟨rfl, rfl, rfl, by decide +kernel, rfl, by decide +kernel, by decide +kernel⟩
def spBut : Sp := fun vs H Q _ => ∃ (a b : Addr) (L M : List (List Int)), vs = [.ref a, .ref b] ∧ TupsAt H a L ∧ TupsAt H b M ∧ L.length ≤ 64 ∧ ∀ (H' : Hp) (z : Addr), Same H H' → H z = none → LstsAt H' z (L.filter fun t => !decide (t ∈ M)) → Q (.ref z) H'
/-- things that were put one behind another into the list at D -/
structure GroP (R : Hp → Nat → Addr → Prop) (H1 H : Hp) (D : Addr) (i : Nat) : Prop where
  S : Same H1 H
  f : H1 D = none
  d : ∃ qs : List Addr, H D = some (.lst (qs.map V.ref)) ∧ qs.length = i ∧ ∀ (j : Nat) (a : Addr), qs[j]? = some a → R H j a
theorem GroP.nil {R : Hp → Nat → Addr → Prop} {H1 : Hp} {D : Addr} (hD : H1 D = none) : GroP R H1 (upd H1 D (.lst [])) D 0 := ⟨new_same hD, hD, [], upd_same, rfl, fun j a e => by simp at e⟩
theorem GroP.keep {R : Hp → Nat → Addr → Prop} {H1 H H' : Hp} {D : Addr} {i : Nat} (G : GroP R H1 H D i) (S : Same H H') (m : ∀ j a, R H j a → R H' j a) : GroP R H1 H' D i := by
  obtain ⟨a, b, qs, c, d, e⟩ := G
  exact ⟨a.trans S, b, qs, S _ _ c, d, fun j x h => m j x (e j x h)⟩
theorem GroP.app {R : Hp → Nat → Addr → Prop} {H1 H : Hp} {D z : Addr} {i : Nat} (G : GroP R H1 H D i) (m : ∀ H', But D H H' → ∀ j a, R H j a → R H' j a) (hz : R H i z) : ∃ acc, H D = some (.lst acc) ∧ acc.length = i ∧ GroP R H1 (upd H D (.lst (acc ++ [.ref z]))) D (i + 1) := by
  obtain ⟨S, f, qs, c, d, e⟩ := G
  refine ⟨_, c, by rw [List.length_map, d], fun b o eb => ?_, f, qs ++ [z], by rw [upd_same, List.map_append]; rfl, by rw [List.length_append, d]; rfl, fun j a h => ?_⟩
  · rw [upd_ne (ne_of_none eb f)]
    exact S _ _ eb
  · have mm := m _ (But.put (h := D) (H := H) (o := .lst (qs.map V.ref ++ [.ref z])))
    rcases Nat.lt_or_ge j qs.length with hj | hj
    · rw [List.getElem?_append_left hj] at h
      exact mm j a (e j a h)
    · have hj2 : j = qs.length := by
        have := (List.getElem?_eq_some_iff.mp h).1
        rw [List.length_append] at this
        have l : [z].length = 1 := rfl
        omega
      subst hj2
      rw [List.getElem?_append_right (Nat.le_refl _), Nat.sub_self] at h
      obtain rfl : z = a := Option.some.inj h
      rw [d]
      exact mm i z hz
/-- tuples stand under what is done to a list -/
theorem tup_but {H H' : Hp} {D b : Addr} {xs ys : List V} (hD : H D = some (.lst ys)) (B : But D H H') (e : H b = some (.tup xs)) : H' b = some (.tup xs) := B _ _ (fun q => by rw [q, hD] at e; cases e) e
/-! ### the table of what is barred -/
def rowB (L : List (List Int)) (n p q k : Nat) : List V := (List.range k).map fun r : Nat => V.bl (decide ([(p : Int), (q : Int), (r : Int)] ∈ L))
def Tab2 (n : Nat) (L : List (List Int)) (p : Nat) (H : Hp) (a : Addr) : Prop := ∃ qs : List Addr, H a = some (.tup (qs.map V.ref)) ∧ qs.length = n ∧ ∀ (q : Nat) (b : Addr), qs[q]? = some b → H b = some (.tup (rowB L n p q n))
def TabAt (n : Nat) (L : List (List Int)) (H : Hp) (z : Addr) : Prop := ∃ ps : List Addr, H z = some (.tup (ps.map V.ref)) ∧ ps.length = n ∧ ∀ (p : Nat) (a : Addr), ps[p]? = some a → Tab2 n L p H a
theorem Tab2.keep {n : Nat} {L : List (List Int)} {p : Nat} {H H' : Hp} {a : Addr} (h : Tab2 n L p H a) (S : ∀ b xs, H b = some (.tup xs) → H' b = some (.tup xs)) : Tab2 n L p H' a := by
  obtain ⟨qs, e, l, f⟩ := h
  exact ⟨qs, S _ _ e, l, fun q b hb => S _ _ (f q b hb)⟩
theorem TabAt.keep {n : Nat} {L : List (List Int)} {H H' : Hp} {z : Addr} (h : TabAt n L H z) (S : Same H H') : TabAt n L H' z := by
  obtain ⟨ps, e, l, f⟩ := h
  exact ⟨ps, S _ _ e, l, fun p a ha => (f p a ha).keep fun b xs e => S _ _ e⟩
abbrev s_bar_table : Stmt := top 33
theorem sc_bar_table : FnScope ["ties", "barred", "many", "p", "q", "r"] ["ties", "barred"] (defScope s_bar_table) := ⟨rfl, rfl, rfl, by decide +kernel, rfl, by decide +kernel, by decide +kernel⟩
def spTab (C : Addr) : Sp := fun vs H Q _ => ∃ (x b : Addr) (ns : List Int) (L : List (List Int)), vs = [.ref x, .ref b] ∧ TiesAt C H x ns ∧ GoodB ns ∧ TupsAt H b L ∧ ∀ (H' : Hp) (z : Addr), Same H H' → H z = none → TabAt ns.length L H' z → Q (.ref z) H'
section
variable {P : Program} {w : World} {K : PySem.W.Frag} {mg : Str → Option Value} {base : Heap}
theorem ok_but {f : Addr} {fd : FuncData} (F : Fun K "_but" "_but" s_but f fd) : FnOk P w K mg base CX0 1 f fd ["threes", "others"] spBut := by
  refine F.ok sc_but (fun vs H Q E h => ?_) (fun cdv A outer s H vs Q E hr h => ?_)
  · obtain ⟨a, b, L, M, rfl, _⟩ := h
    rfl
  · obtain ⟨a, b, L, M, rfl, hL, hM, l64, k⟩ := h
    refine ⟨_, (pss_one 
  (ps_ret (pe_lc (own := [("three", 2)]) (g := gName 2) (by rfl) sc_but.nd (pi_tup (pv 0)) (blkOk_by (own := [("three", 2)]) (N := ["threes", "others", "three"]) (sc := defScope s_but) (by decide +kernel)) (fun _ _ _ _ _ => pg_name (i := 2) sc_but.nd rfl (Or.inl rfl)) (fun _ _ _ _ _ => pts_one (pt_cmpR (r := rNotInDT K) (op_notInDT (units65 hr)) (pv 2) (pv 1) (by rfl))) (fun _ _ _ _ _ => (pv 2))))), ?_⟩
    obtain ⟨ps, e1, e2, e3⟩ := id hL
    refine ⟨_, rfl, a, rfl, ⟨_, SqT.of e1⟩, fun D hD => ?_⟩
    refine lc_tup (K := K) (a := a) (xs := ps.map V.ref) (fun i H2 => Gro H H2 D ((L.take i).filter fun t => !decide (t ∈ M))) (Gro.nil hD) (fun i H2 _ G => SqT.of (G.S _ _ e1)) ?_ ?_
    · rintro i y H2 hy G
      rw [List.getElem?_map] at hy
      cases ea : ps[i]? with
      | none =>
        rw [ea] at hy
        cases hy
      | some z =>
        rw [ea] at hy
        obtain rfl : V.ref z = y := Option.some.inj hy
        have li := (List.getElem?_eq_some_iff.mp ea).1
        have el : L[i]? = some L[i] := List.getElem?_eq_getElem (by omega)
        generalize L[i] = t at el
        have hz := G.S _ _ (e3 i z t ea el)
        have tf := take_filter (p := fun t => !decide (t ∈ M)) el
        refine ⟨rfl, _, rfl, _, rfl, notIn_tups (hM.keep G.S) hz ⟨_, rfl, ?_⟩⟩
        cases c : (!decide (t ∈ M)) with
        | true =>
          obtain ⟨acc, q1, q2, q3⟩ := G.app hz
          refine iteT ⟨_, rfl, acc, q1, ?_, ?_⟩
          · have := List.length_filter_le (fun t => !decide (t ∈ M)) (L.take i)
            rw [List.length_take] at this
            rw [q2]
            exact small1000 (by omega)
          · rw [tf, if_pos c]
            exact q3
        | false =>
          refine iteF ?_
          rw [tf, if_neg (by rw [c]; decide), List.append_nil]
          exact G
    · rintro H2 G
      rw [List.length_map, e2, List.take_length] at G
      exact k _ _ G.S hD G.lsts
theorem ok_bar_table {f C : Addr} {fd : FuncData} (F : Fun K "_bar_table" "_bar_table" s_bar_table f fd) (T : TiC K C) (nt : mg "tuple" = none) (nr : mg "range" = none) : FnOk P w K mg base CX0 1 f fd ["ties", "barred"] (spTab C) := by
  refine F.ok sc_bar_table (fun vs H Q E h => ?_) (fun cdv A outer s H vs Q E hr h => ?_)
  · obtain ⟨x, b, ns, L, rfl, _⟩ := h
    rfl
  · obtain ⟨x, b, ns, L, rfl, hT, gb, hL, k⟩ := h
    refine ⟨_, (pss_cons 
  (ps_set (i := 2) sc_bar_table.nd rfl (Or.inr rfl) (pe_callTy (T := "range") cr_range1 (by rfl) nr (by decide +kernel) (pa_cons (pe_fld (pv 0) rfl) pa_nil))) (pss_one 
  (ps_ret (pe_callTy (T := "tuple") (r := rTup K) call_tuple_of (by rfl) nt (by decide +kernel) (pa_cons (pe_lc (own := [("p", 3)]) (g := gName 3) (by rfl) sc_bar_table.nd (pi_rngO (pv 2)) (blkOk_by (own := [("p", 3)]) (N := ["ties", "barred", "many", "p", "q", "r"]) (sc := defScope s_bar_table) (by decide +kernel)) (fun _ _ _ _ _ => pg_name (i := 3) sc_bar_table.nd rfl (Or.inr rfl)) (fun _ _ _ _ _ => pts_nil) (fun _ _ _ _ _ => (pe_callTy (T := "tuple") (r := rTup K) call_tuple_of (by rfl) nt (by decide +kernel) (pa_cons (pe_lc (own := [("q", 4)]) (g := gName 4) (by rfl) sc_bar_table.nd (pi_rngO (pv 2)) (blkOk_by (own := [("q", 4)]) (N := ["ties", "barred", "many", "p", "q", "r"]) (by rfl)) (fun _ _ _ _ _ => pg_name (i := 4) sc_bar_table.nd rfl (Or.inr rfl)) (fun _ _ _ _ _ => pts_nil) (fun _ _ _ _ _ => (pe_callTy (T := "tuple") (r := rTup K) call_tuple_of (by rfl) nt (by decide +kernel) (pa_cons (pe_lc (own := [("r", 5)]) (g := gName 5) (by rfl) sc_bar_table.nd (pi_rngO (pv 2)) (blkOk_by (own := [("r", 5)]) (N := ["ties", "barred", "many", "p", "q", "r"]) (by rfl)) (fun _ _ _ _ _ => pg_name (i := 5) sc_bar_table.nd rfl (Or.inl rfl)) (fun _ _ _ _ _ => pts_nil) (fun _ _ _ _ _ => (pe_cmpR (r := rInDT K) (op_inDT (units65 hr)) (pe_tup (pa_cons (pv 3) (pa_cons (pv 4) (pa_cons (pv 5) pa_nil)))) (pv 1) (by rfl)))) pa_nil)))) pa_nil)))) pa_nil))))), ?_⟩
    obtain ⟨dx, t, hx, ht⟩ := id hT
    have h4 := gb.hi
    refine ⟨_, rfl, x, C, dx, _, _, rfl, hx, T.cl, T.nM, tf_many _ _, _, rfl, fun m hm => ?_⟩
    have Sm : Same H (upd H m (.rng 0 (ns.length : Nat))) := new_same hm
    have em : (upd H m (.rng 0 (ns.length : Nat))) m = some (.rng 0 (ns.length : Nat)) := upd_same
    generalize upd H m (.rng 0 (ns.length : Nat)) = H1 at Sm em
    refine ⟨_, rfl, m, ns.length, rfl, em, by omega, fun D hD => ?_⟩
    refine lc_range (lo := 0) (n := ns.length) (fun i H2 => GroP (fun H p a => Tab2 ns.length L p H a) H1 H2 D i) (GroP.nil hD) ?_ ?_
    · intro i H2 hi G
      have em2 := G.S _ _ em
      refine ⟨rfl, yesT ?_⟩
      refine ⟨_, rfl, m, ns.length, rfl, em2, by omega, fun D2 hD2 => ?_⟩
      refine lc_range (lo := 0) (n := ns.length) (fun j H3 => GroP (fun H q b => H b = some (.tup (rowB L ns.length i q ns.length))) H2 H3 D2 j) (GroP.nil hD2) ?_ ?_
      · intro j H3 hj G3
        have em3 := G3.S _ _ em2
        refine ⟨rfl, yesT ?_⟩
        refine ⟨_, rfl, m, ns.length, rfl, em3, by omega, fun D3 hD3 => ?_⟩
        refine lc_range (lo := 0) (n := ns.length) (fun l H4 => Same H3 H4 ∧ H3 D3 = none ∧ H4 D3 = some (.lst (rowB L ns.length i j l))) ⟨new_same hD3, hD3, upd_same⟩ ?_ ?_
        · rintro l H4 hl ⟨S4, n4, e4⟩
          refine ⟨rfl, yesT ?_⟩
          refine ⟨_, rfl, _, rfl, _, rfl, (by show 3 ≤ sizeLine; decide), fun z hz => ?_⟩
          have et : ([(i : Int), (j : Int), (l : Int)].map V.int) = [V.int (0 + (i : Nat)), V.int (0 + (j : Nat)), V.int (0 + (l : Nat))] := by simp
          have S5 : Same H4 (upd H4 z (.tup [V.int (0 + (i : Nat)), V.int (0 + (j : Nat)), V.int (0 + (l : Nat))])) := new_same hz
          have ez : (upd H4 z (.tup [V.int (0 + (i : Nat)), V.int (0 + (j : Nat)), V.int (0 + (l : Nat))])) z = some (.tup ([(i : Int), (j : Int), (l : Int)].map V.int)) := by rw [upd_same, et]
          generalize upd H4 z (.tup [V.int (0 + (i : Nat)), V.int (0 + (j : Nat)), V.int (0 + (l : Nat))]) = H5 at S5 ez
          have SA := ((((Sm.trans G.S).trans G3.S).trans S4).trans S5)
          refine ⟨_, rfl, in_tups (hL.keep SA) ez ⟨_, S5 _ _ e4, ?_, fun b o e => ?_, n4, ?_⟩⟩
          · unfold rowB
            rw [List.length_map, List.length_range]
            exact small1000 (by omega)
          · rw [upd_ne (ne_of_none e n4)]
            exact S5 _ _ (S4 _ _ e)
          · rw [upd_same]
            unfold rowB
            rw [List.range_succ, List.map_append]
            rfl
        · rintro H4 ⟨S4, n4, e4⟩
          refine ⟨D3, _, rfl, .inl ⟨SqL.of e4, fun z hz => ?_⟩⟩
          have S5 : Same H4 (upd H4 z (.tup (rowB L ns.length i j ns.length))) := new_same hz
          have G5 := G3.keep (S4.trans S5) fun q b e => (S4.trans S5) _ _ e
          have e5 : (upd H4 z (.tup (rowB L ns.length i j ns.length))) z = some (.tup (rowB L ns.length i j ns.length)) := upd_same
          generalize upd H4 z (.tup (rowB L ns.length i j ns.length)) = H5 at S5 G5 e5
          have eD : ∃ ys, H5 D2 = some (.lst ys) := by
            obtain ⟨_, _, qs, c, _⟩ := G5
            exact ⟨_, c⟩
          obtain ⟨ys, eD⟩ := eD
          obtain ⟨acc, q1, q2, q3⟩ := G5.app (fun H' B q b e => tup_but eD B e) e5
          exact ⟨acc, q1, by rw [q2]; exact small1000 (by omega), q3⟩
      · rintro H3 G3
        obtain ⟨S3, n3, qs, c, l3, f3⟩ := G3
        refine ⟨D2, _, rfl, .inl ⟨SqL.of c, fun z hz => ?_⟩⟩
        have S5 : Same H3 (upd H3 z (.tup (qs.map V.ref))) := new_same hz
        have t5 : Tab2 ns.length L i (upd H3 z (.tup (qs.map V.ref))) z := ⟨qs, upd_same, l3, fun q b hb => S5 _ _ (f3 q b hb)⟩
        generalize upd H3 z (.tup (qs.map V.ref)) = H5 at S5 t5
        have G5 := G.keep (S3.trans S5) fun p a e => e.keep fun b xs e => (S3.trans S5) _ _ e
        have eD : ∃ ys, H5 D = some (.lst ys) := by
          obtain ⟨_, _, qs, c, _⟩ := G5
          exact ⟨_, c⟩
        obtain ⟨ys, eD⟩ := eD
        obtain ⟨acc, q1, q2, q3⟩ := G5.app (fun H' B p a e => e.keep fun b xs e => tup_but eD B e) t5
        exact ⟨acc, q1, by rw [q2]; exact small1000 (by omega), q3⟩
    · rintro H2 G
      obtain ⟨S2, n2, ps, c, l2, f2⟩ := G
      refine ⟨D, _, rfl, .inl ⟨SqL.of c, fun z hz => ?_⟩⟩
      have S5 : Same H2 (upd H2 z (.tup (ps.map V.ref))) := new_same hz
      exact k _ z ((Sm.trans S2).trans S5) (same_free Sm (same_free S2 hz)) ⟨ps, upd_same, l2, fun p a ha => (f2 p a ha).keep fun b xs e => S5 _ _ e⟩
end
end J

set_option Elab.async false
set_option linter.all false
set_option maxRecDepth 100000
set_option maxHeartbeats 8000000
namespace J
open PySem PySem.Spec PyProof.Rows L2
/-! ### books: the fields -/
theorem nd_tb : ¬ (("ties" : Str) = "barred") := by decide +kernel
theorem nd_tl : ¬ (("ties" : Str) = "least_barred") := by decide +kernel
theorem nd_tr : ¬ (("ties" : Str) = "bar_table") := by decide +kernel
theorem nd_bl : ¬ (("barred" : Str) = "least_barred") := by decide +kernel
theorem nd_br : ¬ (("barred" : Str) = "bar_table") := by decide +kernel
theorem nd_lr : ¬ (("least_barred" : Str) = "bar_table") := by decide +kernel
def b1 (t : Addr) : List (Str × V) := putF "ties" (.ref t) []
def b2 (t b : Addr) : List (Str × V) := putF "barred" (.ref b) (b1 t)
def b3 (t b l : Addr) : List (Str × V) := putF "least_barred" (.ref l) (b2 t b)
def bf (t b l r : Addr) : List (Str × V) := putF "bar_table" (.ref r) (b3 t b l)
theorem lp {f : Str} {v : V} {fs : List (Str × V)} {n : Nat} (h : fs.length ≤ n) : (putF f v fs).length ≤ n + 1 := Nat.le_trans (length_putF _ _ _) (by omega)
theorem l1 (t : Addr) : (b1 t).length < 1000 := Nat.lt_of_le_of_lt (lp (n := 0) (Nat.le_refl _)) (by decide)
theorem l2 (t b : Addr) : (b2 t b).length < 1000 := Nat.lt_of_le_of_lt (lp (n := 1) (lp (n := 0) (Nat.le_refl _))) (by decide)
theorem l3 (t b l : Addr) : (b3 t b l).length < 1000 := Nat.lt_of_le_of_lt (lp (n := 2) (lp (n := 1) (lp (n := 0) (Nat.le_refl _)))) (by decide)
theorem b2_barred (t b : Addr) : (b2 t b).lookup ("barred" : Str) = some (.ref b) := by
  unfold b2
  rw [lookup_putF, if_pos rfl]
theorem b3_barred (t b l : Addr) : (b3 t b l).lookup ("barred" : Str) = some (.ref b) := by
  unfold b3
  rw [lookup_putF, if_neg nd_bl, b2_barred]
theorem bf_barred (t b l r : Addr) : (bf t b l r).lookup ("barred" : Str) = some (.ref b) := by
  unfold bf
  rw [lookup_putF, if_neg nd_br, b3_barred]
theorem bf_ties (t b l r : Addr) : (bf t b l r).lookup ("ties" : Str) = some (.ref t) := by
  unfold bf b3 b2 b1
  rw [lookup_putF, if_neg nd_tr, lookup_putF, if_neg nd_tl, lookup_putF, if_neg nd_tb, lookup_putF, if_pos rfl]
theorem bf_least (t b l r : Addr) : (bf t b l r).lookup ("least_barred" : Str) = some (.ref l) := by
  unfold bf b3
  rw [lookup_putF, if_neg nd_lr, lookup_putF, if_pos rfl]
theorem bf_table (t b l r : Addr) : (bf t b l r).lookup ("bar_table" : Str) = some (.ref r) := by
  unfold bf
  rw [lookup_putF, if_pos rfl]
theorem bf_no (t b l r : Addr) {m : Str} (h1 : ¬ m = "bar_table") (h2 : ¬ m = "least_barred") (h3 : ¬ m = "barred") (h4 : ¬ m = "ties") : (bf t b l r).lookup m = none := by
  unfold bf b3 b2 b1
  rw [lookup_putF, if_neg h1, lookup_putF, if_neg h2, lookup_putF, if_neg h3, lookup_putF, if_neg h4]
  rfl
def BookAt (C CB : Addr) (H : Hp) (x : Addr) (ns : List Int) (L : List (List Int)) : Prop := ∃ dx t b l r, H x = some (.ins CB dx (bf t b l r)) ∧ TiesAt C H t ns ∧ TupsAt H b L ∧ TupsAt H l (L.filter (isL ns)) ∧ TabAt ns.length L H r
theorem BookAt.keep {C CB : Addr} {H H' : Hp} {x : Addr} {ns : List Int} {L : List (List Int)} (h : BookAt C CB H x ns L) (S : Same H H') : BookAt C CB H' x ns L := by
  obtain ⟨dx, t, b, l, r, a1, a2, a3, a4, a5⟩ := h
  exact ⟨dx, t, b, l, r, S _ _ a1, a2.keep S, a3.keep S, a4.keep S, a5.keep S⟩
structure BoC (K : PySem.W.Frag) (C : Addr) : Prop where
  cl : Cls K C
  nT : NoAttr K C "ties"
  nB : NoAttr K C "barred"
  nL : NoAttr K C "least_barred"
  nR : NoAttr K C "bar_table"
structure BoX (K : PySem.W.Frag) (mg : Str → Option Value) (C : Addr) : Prop extends BoC K C where
  isc : C8.InsC K C
  mB : mg "Book" = some (.ref C)
  ni : PySem.W.kitOne K (.type "int") (.ref C) = some false
/-! ### what is no instance stays -/
def NI (H H' : Hp) : Prop := ∀ b o, (∀ C dx fs, o ≠ .ins C dx fs) → H b = some o → H' b = some o
theorem NI.of_but {x C dx : Addr} {fs : List (Str × V)} {H H' : Hp} (B : But x H H') (hx : H x = some (.ins C dx fs)) : NI H H' := fun b o ho e => B b o (fun q => by
  rw [q, hx] at e
  exact ho _ _ _ (Option.some.inj e).symm) e
theorem NI.of_same {H H' : Hp} (S : Same H H') : NI H H' := fun b o _ e => S b o e
theorem NI.trans {H H1 H2 : Hp} (a : NI H H1) (b : NI H1 H2) : NI H H2 := fun c o ho e => b c o ho (a c o ho e)
theorem NI.tup {H H' : Hp} (N : NI H H') {b : Addr} {xs : List V} (e : H b = some (.tup xs)) : H' b = some (.tup xs) := N _ _ (fun _ _ _ z => nomatch z) e
theorem NI.is {H H' : Hp} (N : NI H H') {x : V} {s : Sh} (h : Is H x s) : Is H' x s := by
  cases s with
  | sc v => exact h
  | dk => obtain ⟨a, kvs, e, q⟩ := h; exact ⟨a, kvs, e, N _ _ (fun _ _ _ z => nomatch z) q⟩
  | lst xs => obtain ⟨a, e, q⟩ := h; exact ⟨a, e, N _ _ (fun _ _ _ z => nomatch z) q⟩
  | tup xs => obtain ⟨a, e, q⟩ := h; exact ⟨a, e, N.tup q⟩
theorem NI.thr {H H' : Hp} (N : NI H H') {xs : List V} {ts : List (List Int)} (h : ThrAt H xs ts) : ThrAt H' xs ts := Paired.mapP h fun x t ⟨s, a, b, c⟩ => ⟨s, N.is a, b, c⟩
theorem NI.tups {H H' : Hp} (N : NI H H') {z : Addr} {L : List (List Int)} (h : TupsAt H z L) : TupsAt H' z L := by
  obtain ⟨ps, a, b, c⟩ := h
  exact ⟨ps, N.tup a, b, fun j x ts e1 e2 => N.tup (c j x ts e1 e2)⟩
theorem NI.tab {n : Nat} {H H' : Hp} (N : NI H H') {z : Addr} {L : List (List Int)} (h : TabAt n L H z) : TabAt n L H' z := by
  obtain ⟨ps, a, b, c⟩ := h
  exact ⟨ps, N.tup a, b, fun p x e => (c p x e).keep fun _ _ q => N.tup q⟩
theorem TiesAt.ne {C CC : Addr} {H : Hp} {x dx t : Addr} {fs : List (Str × V)} {ns : List Int} (h : TiesAt C H t ns) (hx : H x = some (.ins CC dx fs)) (hf : fs.lookup ("many" : Str) = none) : t ≠ x := by
  obtain ⟨d, tb, e, _⟩ := h
  rintro rfl
  rw [e] at hx
  have z : HO.ins C d (tf tb (ns.length : Nat)) = .ins CC dx fs := Option.some.inj hx
  injection z with _ _ z
  rw [← z, tf_many] at hf
  cases hf
theorem TiesAt.off {C x CC dx : Addr} {fs : List (Str × V)} {H H' : Hp} {t : Addr} {ns : List Int} (h : TiesAt C H t ns) (B : But x H H') (n : t ≠ x) (hx : H x = some (.ins CC dx fs)) : TiesAt C H' t ns := by
  obtain ⟨d, tb, a, b⟩ := h
  exact ⟨d, tb, B _ _ n a, (NI.of_but B hx).tup b⟩
/-! ### what a book is made of -/
def ofV : V → Int
  | .int n => n
  | _ => 0
def trs (ss : List Sh) : List (List Int) := ss.map fun s => (items s).map ofV
theorem thr_sh {ns : List Int} {s : Sh} (h : threeB ns s = true) : ∃ p q r, items s = [.int p, .int q, .int r] ∧ InT ns p ∧ InT ns q ∧ InT ns r ∧ (s.isL || s.isT) = true := by
  cases s with
  | sc u => cases h
  | dk => cases h
  | lst xs =>
    obtain ⟨p, q, r, e, ip, iq, ir⟩ := threeB_ints h
    exact ⟨p, q, r, e, ip, iq, ir, rfl⟩
  | tup xs =>
    obtain ⟨p, q, r, e, ip, iq, ir⟩ := threeB_ints h
    exact ⟨p, q, r, e, ip, iq, ir, rfl⟩
theorem thr_of {ns : List Int} {H : Hp} : ∀ {xs : List V} {ss : List Sh}, ShAll H xs ss → (∀ s ∈ ss, threeB ns s = true) → ThrAt H xs (trs ss) ∧ ∀ t ∈ trs ss, t ∈ A3 ns.length ns.length
  | _, _, .nil, _ => ⟨.nil, fun t h => by cases h⟩
  | _, s :: ss, .cons r t, h => by
    obtain ⟨i1, i2⟩ := thr_of t fun u hu => h u (List.mem_cons_of_mem _ hu)
    obtain ⟨p, q, r', e, ip, iq, ir, sq⟩ := thr_sh (h s List.mem_cons_self)
    have ee : (items s).map ofV = [p, q, r'] := by rw [e]; rfl
    refine ⟨.cons ⟨s, r.1, sq, by show items s = ((items s).map ofV).map V.int; rw [ee, e]; rfl⟩ i1, fun u hu => ?_⟩
    rcases List.mem_cons.mp hu with z | z
    · rw [z, show (fun s : Sh => (items s).map ofV) s = [p, q, r'] from ee]
      exact in_A3 ip iq ir
    · exact i2 u z
def ArgB (C CE : Addr) (w : Str) (t v : V) (H : Hp) (E : XK) (k : List Int → List (List Int) → Prop) : Prop :=
  ((∃ z xs, t = .ref z ∧ H z = some (.lst xs)) ∧ Told H CE 0 "ties" E) ∨ ∃ (x : Addr) (ns : List Int) (s : Sh) (ss : List Sh), t = .ref x ∧ TiesAt C H x ns ∧ GoodB ns ∧ Is H v s ∧ ShAll H (items s) ss ∧ ((s.isL || s.isT) = false → Told H CE 0 w E) ∧
    (∀ (j : Nat) (s' : Sh), (s.isL || s.isT) = true → ss[j]? = some s' → threeB ns s' = false → (∀ (i : Nat) (s' : Sh), i < j → ss[i]? = some s' → threeB ns s' = true) → Told H CE (j : Nat) "three" E) ∧
    ((s.isL || s.isT) = true → (∀ s' ∈ ss, threeB ns s' = true) → k ns (trs ss))
/-- what is let beside given threes -/
def lts (ns : List Int) (ts : List (List Int)) : List (List Int) := (A3 ns.length ns.length).filter fun t => !decide (t ∈ brd ns ts)
theorem lts_A3 {ns : List Int} {ts : List (List Int)} : ∀ t ∈ lts ns ts, t ∈ A3 ns.length ns.length := fun t h => (List.mem_filter.mp h).1
theorem inR_self {ns : List Int} {t : List Int} (h : t ∈ A3 ns.length ns.length) : inR ns t t = true := by
  obtain ⟨p, q, r, rfl, _⟩ := A3_in h (ns := ns) rfl
  exact decide_eq_true (by simp [six])
theorem inR_swap {ns : List Int} {t u : List Int} (g : GoodB ns) (hu : u ∈ A3 ns.length ns.length) (h : inR ns t u = true) : inR ns u t = true := by
  have ht := inR_A3 g hu h
  obtain ⟨p, q, r, rfl, ip, iq, ir⟩ := A3_in hu (ns := ns) rfl
  obtain ⟨a, b, c, rfl, ia, ib, ic⟩ := A3_in ht (ns := ns) rfl
  have h' : [a, b, c] ∈ six ns p q r := of_decide_eq_true h
  exact decide_eq_true ((six_same g ip iq ir h' [p, q, r]).mpr (by simp [six]))
theorem inR_trans {ns : List Int} {t u v : List Int} (g : GoodB ns) (hv : v ∈ A3 ns.length ns.length) (h : inR ns t u = true) (h2 : inR ns u v = true) : inR ns t v = true := by
  have hu := inR_A3 g hv h2
  obtain ⟨p, q, r, rfl, ip, iq, ir⟩ := A3_in hv (ns := ns) rfl
  obtain ⟨a, b, c, rfl, ia, ib, ic⟩ := A3_in hu (ns := ns) rfl
  have h' : [a, b, c] ∈ six ns p q r := of_decide_eq_true h2
  have h1 : t ∈ six ns a b c := of_decide_eq_true h
  exact decide_eq_true ((six_same g ip iq ir h' t).mp h1)
theorem brd_A3 {ns : List Int} {ts : List (List Int)} : ∀ t ∈ brd ns ts, t ∈ A3 ns.length ns.length := fun t h => (List.mem_filter.mp h).1
theorem brd_in {ns : List Int} {ts : List (List Int)} {t u : List Int} (g : GoodB ns) (ha : ∀ u ∈ ts, u ∈ A3 ns.length ns.length) (h : inR ns t u = true) (hu : u ∈ brd ns ts) : t ∈ brd ns ts := by
  obtain ⟨v, hv, e⟩ := (brd_mem g ha).mp hu
  exact (brd_mem g ha).mpr ⟨v, hv, inR_trans g (ha v hv) h e⟩
/-- what is closed under readings bars itself -/
theorem brd_closed {ns : List Int} {p : List Int → Bool} (g : GoodB ns) (h : ∀ t u, u ∈ A3 ns.length ns.length → inR ns t u = true → p u = true → p t = true) : brd ns ((A3 ns.length ns.length).filter p) = (A3 ns.length ns.length).filter p := by
  refine (brd_of g (fun u hu => (List.mem_filter.mp hu).1) ((A3_asc _ g.hi).sublist List.filter_sublist) fun t => ?_).symm
  constructor
  · intro ht
    exact ⟨t, ht, inR_self (List.mem_filter.mp ht).1⟩
  · rintro ⟨u, hu, e⟩
    obtain ⟨h1, h2⟩ := List.mem_filter.mp hu
    exact List.mem_filter.mpr ⟨inR_A3 g h1 e, h t u h1 e h2⟩
theorem brd_lts {ns : List Int} {ts : List (List Int)} (g : GoodB ns) (ha : ∀ u ∈ ts, u ∈ A3 ns.length ns.length) : brd ns (lts ns ts) = lts ns ts := by
  refine brd_closed g fun t u hu e h => ?_
  have h' : ¬ u ∈ brd ns ts := by simpa using h
  have : ¬ t ∈ brd ns ts := fun z => h' (brd_in g ha (inR_swap g hu e) z)
  simp [this]
theorem brd_brd {ns : List Int} {ts : List (List Int)} (g : GoodB ns) (ha : ∀ u ∈ ts, u ∈ A3 ns.length ns.length) : brd ns (brd ns ts) = brd ns ts := by
  refine brd_closed g fun t u hu e h => ?_
  rw [List.any_eq_true] at h ⊢
  obtain ⟨v, hv, e2⟩ := h
  exact ⟨v, hv, inR_trans g (ha v hv) e e2⟩
end J

set_option Elab.async false
set_option linter.all false
set_option maxRecDepth 100000
set_option maxHeartbeats 8000000
namespace J
open PySem PySem.Spec PyProof.Rows L2
/-! ### the default () lies in the written part -/
def KT (K : PySem.W.Frag) (a : Addr) : Prop := ∃ (o : Obj) (its : Array Value) (n : Nat), K.lookup a = some o ∧ o.cls = .type "tuple" ∧ o.data = .seq its n ∧ its.size ≤ sizeLine ∧ Vals [] its.toList
theorem KT.sq {K : PySem.W.Frag} {a : Addr} (h : KT K a) (H : Hp) : SqT K H a [] := .inr h
theorem isi_seqK {K : PySem.W.Frag} {H : Hp} {a : Addr} {Q : VK} (h : KT K a) (k : ∀ H', Same H H' → Q (.bl true) H') : 2 ≤ sizeLine ∧ ∀ p, H p = none → rIsiT K [.ref a, .ref p] (upd H p (.tup [.ty "list", .ty "tuple"])) Q := by
  obtain ⟨o, its, n, lk, hc, _⟩ := h
  exact ⟨by decide, fun p hp => ⟨_, _, _, _, _, _, rfl, upd_same, .cons (.ty "list") (.cons (.ty "tuple") .nil), .kTuple lk hc, kit_seq kt_tuple_list kt_tuple_tuple, k _ (new_same hp)⟩⟩
def spSeqK (K : PySem.W.Frag) : Sp := fun vs H Q _ => ∃ a : Addr, vs = [.ref a] ∧ KT K a ∧ ∀ H', Same H H' → Q (.bl true) H'
def spChkK (K : PySem.W.Frag) (C : Addr) : Sp := fun vs H Q _ => ∃ (x a : Addr) (ns : List Int) (u : Str), vs = [.ref x, .ref a, .str u] ∧ TiesAt C H x ns ∧ KT K a ∧ ∀ H', Same H H' → Q .non H'
def spWithK (K : PySem.W.Frag) (C : Addr) : Sp := fun vs H Q _ => ∃ (x a : Addr), vs = [.ref x, .ref a] ∧ KT K a ∧ ∀ (H' : Hp) (z : Addr), Same H H' → H z = none → TupsAt H' z [] → Q (.ref z) H'
abbrev s_Book_init : Stmt := inClass (top 29) 0
theorem sc_Book_init : FnScope ["self", "ties", "barred", "three"] ["self", "ties", "barred"] (defScope s_Book_init) := ⟨rfl, rfl, rfl, by decide +kernel, rfl, by decide +kernel, by decide +kernel⟩
def spBI (K : PySem.W.Frag) (C CB CE : Addr) : Sp := fun vs H Q E => ∃ (x dx : Addr) (t v : V), vs = [.ref x, t, v] ∧ H x = some (.ins CB dx []) ∧
  (ArgB C CE "barred" t v H E (fun ns ts => ∀ H', But x H H' → BookAt C CB H' x ns (brd ns ts) → Q .non H') ∨
    ∃ (tt a : Addr) (ns : List Int), t = .ref tt ∧ v = .ref a ∧ TiesAt C H tt ns ∧ GoodB ns ∧ KT K a ∧ ∀ H', But x H H' → BookAt C CB H' x ns [] → Q .non H')
section
variable {P : Program} {w : World} {K : PySem.W.Frag} {mg : Str → Option Value} {base : Heap}
theorem ok_is_sequenceK {f : Addr} {fd : FuncData} (F : Fun K "is_sequence" "is_sequence" s_is_sequence f fd) (ns : mg "isinstance" = none) (nl : mg "list" = none) (nt : mg "tuple" = none) : FnOk P w K mg base CX0 1 f fd ["thing"] (spSeqK K) := by
  refine F.ok sc_is_sequence (fun vs H Q E h => ?_) (fun cdv A outer s H vs Q E hr h => ?_)
  · obtain ⟨a, rfl, _⟩ := h
    rfl
  · obtain ⟨a, rfl, ha, k⟩ := h
    refine ⟨_, (pss_one 
  (ps_ret (pe_callB call_isiT (by rfl) ns (by decide +kernel) (pa_cons (pv 0) (pa_cons (pe_tup (pa_cons (pe_bltn (by rfl) nl (by decide +kernel) (v := .ty "list") rfl) (pa_cons (pe_bltn (by rfl) nt (by decide +kernel) (v := .ty "tuple") rfl) pa_nil))) pa_nil))))), ?_⟩
    exact ⟨_, rfl, isi_seqK ha k⟩
theorem ok_check_threesK {f C CB fS fH fI : Addr} {fd fdS fdH fdI : FuncData} (F : Fun K "_check_threes" "_check_threes" s_check_threes f fd) (T : TiX K mg C) (nis : mg "isinstance" = none) (ne : mg "enumerate" = none)
    (GS : Cal P w K mg base CX0 1 "is_sequence" fS fdS ["thing"] (spSeqK K)) (GI : Cal P w K mg base CX0 3 "is_three" fH fdH ["ties", "thing"] (spThree C)) (GB : Ex2 P w K mg base "BadBook" "index" "what" CB fI fdI ["self", "index", "what"]) :
    FnOk P w K mg base (L2.CX P w) 4 f fd ["ties", "threes", "word"] (spChkK K C) := by
  refine F.okX sc_check_threes (fun vs H Q E h => ?_) (fun cdv A outer s H vs Q E hr h => ?_)
  · obtain ⟨x, a, ns, u, rfl, _⟩ := h
    rfl
  · obtain ⟨x, a, ns, u, rfl, hT, ha, k⟩ := h
    have hr2 : Room 2 _ := hr.mono (by decide)
    obtain ⟨dx, tt, hx, htt⟩ := id hT
    refine ⟨_, (pss_cons 
  (ps_if (pt_not (pt_val (pe_callB call_isi (by rfl) nis (by decide +kernel) (pa_cons (pv 0) (pa_cons (pe_glob (v := .ref C) rfl T.mT rfl) pa_nil))))) (pss_one (ps_raise rfl (takes_of rfl rfl rfl rfl) (pmk_oex GB.o GB.i GB.t GB.F hr2 GB.b .nil pass0 rfl GB.m (pa_cons pe_int (pa_cons pe_str pa_nil))))) pss_nil) (pss_cons 
  (ps_if (pt_not (pt_val (pcal GS hr pass0 (pa_cons (pv 1) pa_nil)))) (pss_one (ps_raise rfl (takes_of rfl rfl rfl rfl) (pmk_oex GB.o GB.i GB.t GB.F hr2 GB.b .nil pass0 rfl GB.m (pa_cons pe_int (pa_cons (pv 2) pa_nil))))) pss_nil) (pss_one 
  (ps_for (passes_of rfl) rfl (pi_enumT (by rfl) ne (pa_cons (pv 1) pa_nil)) (pg_tup (by rfl) (pgs_cons (pg_name (i := 3) sc_check_threes.nd rfl (Or.inl rfl)) (pgs_cons (pg_name (i := 4) sc_check_threes.nd rfl (Or.inl rfl)) pgs_nil))) (pss_one 
    (ps_if (pt_not (pt_val (pcal GI hr pass0 (pa_cons (pv 0) (pa_cons (pv 4) pa_nil))))) (pss_one (ps_raise rfl (takes_of rfl rfl rfl rfl) (pmk_oex GB.o GB.i GB.t GB.F hr2 GB.b .nil pass0 rfl GB.m (pa_cons (pv 3) (pa_cons pe_str pa_nil))))) pss_nil)))))), ?_⟩
    refine ⟨_, rfl, _, _, _, _, true, rfl, .own C, .base (.ins hx T.cl T.isc.ha T.isc.hn T.isc.htk T.isc.hm), T.isc.me, _, rfl, iteF ?_⟩
    refine ⟨_, rfl, a, rfl, ha, fun H1 S1 => ⟨_, rfl, iteF ?_⟩⟩
    refine ⟨_, rfl, a, [], rfl, ha.sq _, for_enumT (K := K) (a := a) (xs := []) (fun i σ H' => ∃ v3 v4 : Option V, σ = [some (.ref x), some (.ref a), some (.str u), v3, v4] ∧ Same H1 H')
      ⟨none, none, rfl, Same.refl _⟩ (fun i σ H' _ _ => ha.sq _) ?_ ?_⟩
    · rintro i y σ H' T0 hy
      simp at hy
    · rintro σ H' ⟨v3, v4, rfl, S3⟩
      exact k _ (S1.trans S3)
theorem ok_with_readingsK {f C CT fR : Addr} {fd fdR : FuncData} (F : Fun K "_with_readings" "_with_readings" s_with_readings f fd) (nt : mg "tuple" = none) (nso : mg "sorted" = none)
    (GR : Cal P w K mg base (L2.CX P w) 4 "readings_of" fR fdR ["ties", "three"] (spReadings C CT)) : FnOk P w K mg base CX0 5 f fd ["ties", "threes"] (spWithK K C) := by
  refine F.ok sc_with_readings (fun vs H Q E h => ?_) (fun cdv A outer s H vs Q E hr h => ?_)
  · obtain ⟨x, a, rfl, _⟩ := h
    rfl
  · obtain ⟨x, a, rfl, ha, k⟩ := h
    refine ⟨_, (pss_cons 
  (ps_set (i := 2) sc_with_readings.nd rfl (Or.inl rfl) pe_dnewT) (pss_cons 
  (ps_for PassesOwn.never rfl (pi_tup (pv 1)) (pg_name (i := 3) sc_with_readings.nd rfl (Or.inl rfl)) (pss_one 
    (ps_for PassesOwn.never rfl (pi_tup (pcal GR hr passL (pa_cons (pv 0) (pa_cons (pv 3) pa_nil)))) (pg_name (i := 4) sc_with_readings.nd rfl (Or.inl rfl)) (pss_one 
      (ps_asg pe_bl (pg_sub (pv 2) (pv 4) (set_dict (un1 hr)))))))) (pss_one 
  (ps_ret (pe_callTy (T := "tuple") (r := rTup K) call_tuple_of (by rfl) nt (by decide +kernel) (pa_cons (pe_callB (r := rSortD 3 4) (cr_sortedD rfl (by decide)) (by rfl) nso (by decide +kernel) (pa_cons (pv 2) pa_nil)) pa_nil)))))), ?_⟩
    refine fun D hD => ?_
    refine ⟨_, rfl, a, rfl, ⟨[], ha.sq _⟩, for_tup (K := K) (a := a) (xs := []) (fun i σ H' => ∃ (v3 v4 : Option V), σ = [some (.ref x), some (.ref a), some (.ref D), v3, v4] ∧ H' = upd H D (.dT []))
        ⟨none, none, rfl, rfl⟩ (fun i σ H' _ _ => ha.sq _) ?_ ?_⟩
    · rintro i y σ H2 hy
      simp at hy
    · rintro σ H2 ⟨v3, v4, rfl, rfl⟩
      have S2 : Same H (upd H D (.dT [])) := new_same hD
      refine ⟨_, rfl, D, [], [], rfl, upd_same, rfl, (fun t ht => by cases ht), fun L p pm ndL pw hL np => ?_⟩
      have e : L = [] := by
        have := pm.length_eq
        rw [List.length_map] at this
        exact List.eq_nil_of_length_eq_zero this
      subst e
      refine ⟨p, [], rfl, .inl ⟨SqL.of upd_same, fun z hz => ?_⟩⟩
      have S3 : Same (upd H D (.dT [])) (upd (upd H D (.dT [])) p (.lst [])) := new_same np
      exact k _ z ((S2.trans S3).trans (new_same hz)) (same_free S2 (same_free S3 hz)) ⟨[], upd_same, rfl, fun j a t q => by simp at q⟩
theorem ok_Book_init {f C CB CE CT fK fW fL fT fK' fW' : Addr} {fd fdK fdW fdL fdT fdK' fdW' : FuncData} {dvs : List V} (F : FunD K "__init__" "Book.__init__" (defArgs s_Book_init) (defBody s_Book_init) (defScope s_Book_init) dvs [] f fd) (c : BoC K CB) (nt : mg "tuple" = none)
    (GC : Cal P w K mg base (L2.CX P w) 4 "_check_threes" fK fdK ["ties", "threes", "word"] (spChk C CE)) (GW : Cal P w K mg base CX0 5 "_with_readings" fW fdW ["ties", "threes"] (spWith C)) (GL : Cal P w K mg base (L2.CX P w) 5 "least_reading" fL fdL ["ties", "three"] (spLeast C CT)) (GT : Cal P w K mg base CX0 1 "_bar_table" fT fdT ["ties", "barred"] (spTab C))
    (GCK : Cal P w K mg base (L2.CX P w) 4 "_check_threes" fK' fdK' ["ties", "threes", "word"] (spChkK K C)) (GWK : Cal P w K mg base CX0 5 "_with_readings" fW' fdW' ["ties", "threes"] (spWithK K C)) : FnOk P w K mg base (L2.CX P w) 6 f fd ["self", "ties", "barred"] (spBI K C CB CE) := by
  refine F.ok sc_Book_init (fun vs H Q E h => ?_) (fun cdv A outer s H vs Q E hr h => ?_)
  · obtain ⟨x, dx, t, v, rfl, _⟩ := h
    rfl
  · obtain ⟨x, dx, t, v, rfl, hx, h⟩ := h
    have nmany : (([] : List (Str × V)).lookup ("many" : Str)) = none := rfl
    rcases h with (⟨hz, k⟩ | ⟨tt, ns, sh, ss, rfl, hT, gb, hv, hs, k1, k2, k3⟩) | ⟨tt, a, ns, rfl, rfl, hT, gb, ha, k3⟩
    · refine ⟨_, (pss_cons (ps_expr (pcal GC hr (passes_call (takes_of rfl rfl rfl rfl) (fun _ _ _ _ h => h)) (pa_cons (pv 1) (pa_cons (pv 2) (pa_cons pe_str pa_nil))))) (pss_cons 
 (ps_fld (pv 0) (pv 1) rfl) (pss_cons 
 (ps_fld (pv 0) (pcal GW hr pass0 (pa_cons (pv 1) (pa_cons (pv 2) pa_nil))) rfl) (pss_cons 
 (ps_fld (pv 0) (pe_callTy (T := "tuple") (r := rTup K) call_tuple_of (by rfl) nt (by decide +kernel) (pa_cons (pe_lc (own := [("three", 3)]) (g := gName 3) (by rfl) sc_Book_init.nd (pi_tup (pe_fld (pv 0) rfl)) (blkOk_by (own := [("three", 3)]) (N := ["self", "ties", "barred", "three"]) (sc := defScope s_Book_init) (by decide +kernel)) (fun _ _ _ _ _ => pg_name (i := 3) sc_Book_init.nd rfl (Or.inl rfl)) (fun _ _ _ _ _ => pts_one (pt_cmpR (r := rEqD K) (op_eqD hr.units) (pv 3) (pcal GL hr passL (pa_cons (pv 1) (pa_cons (pv 3) pa_nil))) (nomark _))) (fun _ _ _ _ _ => (pv 3))) pa_nil)) rfl) (pss_one 
 (ps_fld (pv 0) (pcal GT hr pass0 (pa_cons (pv 1) (pa_cons (pe_fld (pv 0) rfl) pa_nil))) rfl)))))), ?_⟩
      exact ⟨_, rfl, _, rfl, t, v, "barred", rfl, .inl ⟨hz, k⟩⟩
    · refine ⟨_, (pss_cons (ps_expr (pcal GC hr (passes_call (takes_of rfl rfl rfl rfl) (fun _ _ _ _ h => h)) (pa_cons (pv 1) (pa_cons (pv 2) (pa_cons pe_str pa_nil))))) (pss_cons 
 (ps_fld (pv 0) (pv 1) rfl) (pss_cons 
 (ps_fld (pv 0) (pcal GW hr pass0 (pa_cons (pv 1) (pa_cons (pv 2) pa_nil))) rfl) (pss_cons 
 (ps_fld (pv 0) (pe_callTy (T := "tuple") (r := rTup K) call_tuple_of (by rfl) nt (by decide +kernel) (pa_cons (pe_lc (own := [("three", 3)]) (g := gName 3) (by rfl) sc_Book_init.nd (pi_tup (pe_fld (pv 0) rfl)) (blkOk_by (own := [("three", 3)]) (N := ["self", "ties", "barred", "three"]) (sc := defScope s_Book_init) (by decide +kernel)) (fun _ _ _ _ _ => pg_name (i := 3) sc_Book_init.nd rfl (Or.inl rfl)) (fun _ _ _ _ _ => pts_one (pt_cmpR (r := rEqD K) (op_eqD hr.units) (pv 3) (pcal GL hr passL (pa_cons (pv 1) (pa_cons (pv 3) pa_nil))) (nomark _))) (fun _ _ _ _ _ => (pv 3))) pa_nil)) rfl) (pss_one 
 (ps_fld (pv 0) (pcal GT hr pass0 (pa_cons (pv 1) (pa_cons (pe_fld (pv 0) rfl) pa_nil))) rfl)))))), ?_⟩
      refine ⟨_, rfl, _, rfl, _, v, "barred", rfl, .inr ⟨tt, ns, sh, ss, rfl, hT, hv, hs, k1, k2, fun sq hb H1 S1 => ?_⟩⟩
      obtain ⟨thr, hA⟩ := thr_of hs hb
      have k : ∀ H', But x H H' → BookAt C CB H' x ns (brd ns (trs ss)) → Q .non H' := k3 sq hb
      have hx1 := S1 _ _ hx
      refine ⟨_, rfl, _, rfl, x, CB, dx, [], rfl, hx1, c.cl, c.nT, (by show 0 < 1000; decide), ?_⟩
      have hx2 : (upd H1 x (.ins CB dx (b1 tt))) x = some (.ins CB dx (b1 tt)) := upd_same
      have B2 : But x H1 (upd H1 x (.ins CB dx (b1 tt))) := But.put
      have nx := hT.ne hx nmany
      have hT2 := (hT.keep S1).off B2 nx hx1
      have N2 := NI.of_but B2 hx1
      have hv2 := N2.is (hv.keep S1)
      have thr2 := N2.thr (thr.keep S1)
      show tSeq _ _ _ _ (upd H1 x (.ins CB dx (b1 tt)))
      have BA : But x H (upd H1 x (.ins CB dx (b1 tt))) := (But.same S1).trans B2
      generalize upd H1 x (.ins CB dx (b1 tt)) = H2 at hx2 hT2 hv2 thr2 BA
      refine ⟨_, rfl, _, rfl, tt, ns, v, sh, trs ss, rfl, hT2, gb, hv2, sq, thr2, hA, fun H3 z S3 nz TZ => ?_⟩
      have hx3 := S3 _ _ hx2
      refine ⟨_, rfl, x, CB, dx, _, rfl, hx3, c.cl, c.nB, l1 tt, ?_⟩
      have hx4 : (upd H3 x (.ins CB dx (b2 tt z))) x = some (.ins CB dx (b2 tt z)) := upd_same
      have B4 : But x H3 (upd H3 x (.ins CB dx (b2 tt z))) := But.put
      have hT4 := (hT2.keep S3).off B4 nx hx3
      have TZ4 := (NI.of_but B4 hx3).tups TZ
      have BA4 := (BA.trans (But.same S3)).trans B4
      show tSeq _ _ _ _ (upd H3 x (.ins CB dx (b2 tt z)))
      generalize upd H3 x (.ins CB dx (b2 tt z)) = H4 at hx4 hT4 TZ4 BA4
      have hLA := brd_A3 (ns := ns) (ts := trs ss)
      have l64 : (brd ns (trs ss)).length ≤ 64 := Nat.le_trans (List.length_filter_le _ _) (A3_len _ gb.hi)
      generalize hL : brd ns (trs ss) = L at TZ4 hLA l64 k
      obtain ⟨ps, e1, e2, e3⟩ := id TZ4
      refine ⟨_, rfl, x, CB, dx, _, _, rfl, hx4, c.cl, c.nB, b2_barred _ _, z, rfl, ⟨_, SqT.of e1⟩, fun D hD => ?_⟩
      refine lc_tup (K := K) (a := z) (xs := ps.map V.ref) (fun i H5 => Gro H4 H5 D ((L.take i).filter (isL ns))) (Gro.nil hD) (fun i H5 _ G => SqT.of (G.S _ _ e1)) ?_ ?_
      · rintro i y H5 hy G
        rw [List.getElem?_map] at hy
        cases ea : ps[i]? with
        | none =>
          rw [ea] at hy
          cases hy
        | some b =>
          rw [ea] at hy
          obtain rfl : V.ref b = y := Option.some.inj hy
          have li := (List.getElem?_eq_some_iff.mp ea).1
          have el : L[i]? = some L[i] := List.getElem?_eq_getElem (by omega)
          generalize L[i] = u at el
          obtain ⟨p, q, r, rfl, ip, iq, ir⟩ := A3_in (hLA u (List.mem_of_getElem? el)) (ns := ns) rfl
          have hb := G.S _ _ (e3 i b _ ea el)
          have tf := take_filter (p := isL ns) el
          refine ⟨rfl, ?_⟩
          refine ⟨_, rfl, _, rfl, _, rfl, tt, ns, .ref b, .tup ([p, q, r].map V.int), rfl, hT4.keep G.S, gb, ⟨b, rfl, hb⟩, ints_known _, fun e => ?_, fun p' q' r' e ip' iq' ir' H6 z' t' L' S6 hz' R => ?_⟩
          · have : threeB ns (.tup ([p, q, r].map V.int)) = true := three_yes (s := .tup ([p, q, r].map V.int)) rfl rfl ip iq ir
            rw [this] at e
            cases e
          · obtain ⟨rfl, rfl, rfl⟩ := ints3 (s := .tup ([p, q, r].map V.int)) rfl e
            refine ⟨_, _, .tup (SqT.of (S6 _ _ hb)) (dp_ints _), .tup (SqT.of hz') (dp_ints _), shaped_ti _, shaped_ti _, _, rfl, ?_⟩
            rw [eqv_ti, isL_iff R]
            have G6 := G.keep S6
            cases hc : isL ns [p', q', r'] with
            | true =>
              obtain ⟨acc, q1, q2, q3⟩ := G6.app (S6 _ _ hb)
              refine iteT ⟨_, rfl, acc, q1, ?_, ?_⟩
              · have := List.length_filter_le (isL ns) (L.take i)
                rw [List.length_take] at this
                rw [q2]
                exact small1000 (by omega)
              · rw [tf, if_pos hc]
                exact q3
            | false =>
              refine iteF ?_
              rw [tf, if_neg (by rw [hc]; decide), List.append_nil]
              exact G6
      · rintro H5 G
        rw [List.length_map, e2, List.take_length] at G
        obtain ⟨qs, d1, d2, d3⟩ := G.d
        refine ⟨D, _, rfl, .inl ⟨SqL.of d1, fun l hl => ?_⟩⟩
        have TL := G.tup d1 hl
        have S6 : Same H5 (upd H5 l (.tup (qs.map V.ref))) := new_same hl
        generalize upd H5 l (.tup (qs.map V.ref)) = H6 at TL S6
        have SA := G.S.trans S6
        have hx6 := SA _ _ hx4
        refine ⟨_, rfl, x, CB, dx, _, rfl, hx6, c.cl, c.nL, l2 tt z, ?_⟩
        have hx7 : (upd H6 x (.ins CB dx (b3 tt z l))) x = some (.ins CB dx (b3 tt z l)) := upd_same
        have B7 : But x H6 (upd H6 x (.ins CB dx (b3 tt z l))) := But.put
        have hT7 := (hT4.keep SA).off B7 nx hx6
        have TZ7 := (NI.of_but B7 hx6).tups (TZ4.keep SA)
        have TL7 := (NI.of_but B7 hx6).tups TL
        have BA7 := (BA4.trans (But.same SA)).trans B7
        show Ends.nx _ _ (upd H6 x (.ins CB dx (b3 tt z l)))
        generalize upd H6 x (.ins CB dx (b3 tt z l)) = H7 at hx7 hT7 TZ7 TL7 BA7
        refine ⟨_, rfl, _, rfl, x, CB, dx, _, _, rfl, hx7, c.cl, c.nB, b3_barred _ _ _, tt, z, ns, L, rfl, hT7, gb, TZ7, fun H8 r S8 nr TR => ?_⟩
        have hx8 := S8 _ _ hx7
        refine ⟨_, rfl, x, CB, dx, _, rfl, hx8, c.cl, c.nR, l3 tt z l, ?_⟩
        have B9 : But x H8 (upd H8 x (.ins CB dx (bf tt z l r))) := But.put
        have N9 := NI.of_but B9 hx8
        exact k _ ((BA7.trans (But.same S8)).trans B9) ⟨dx, tt, z, l, r, upd_same, (hT7.keep S8).off B9 nx hx8, N9.tups (TZ7.keep S8), N9.tups (TL7.keep S8), N9.tab TR⟩
    · refine ⟨_, (pss_cons (ps_expr (pcal GCK hr (passes_call (takes_of rfl rfl rfl rfl) (fun _ _ _ _ h => h)) (pa_cons (pv 1) (pa_cons (pv 2) (pa_cons pe_str pa_nil))))) (pss_cons 
 (ps_fld (pv 0) (pv 1) rfl) (pss_cons 
 (ps_fld (pv 0) (pcal GWK hr pass0 (pa_cons (pv 1) (pa_cons (pv 2) pa_nil))) rfl) (pss_cons 
 (ps_fld (pv 0) (pe_callTy (T := "tuple") (r := rTup K) call_tuple_of (by rfl) nt (by decide +kernel) (pa_cons (pe_lc (own := [("three", 3)]) (g := gName 3) (by rfl) sc_Book_init.nd (pi_tup (pe_fld (pv 0) rfl)) (blkOk_by (own := [("three", 3)]) (N := ["self", "ties", "barred", "three"]) (sc := defScope s_Book_init) (by decide +kernel)) (fun _ _ _ _ _ => pg_name (i := 3) sc_Book_init.nd rfl (Or.inl rfl)) (fun _ _ _ _ _ => pts_one (pt_cmpR (r := rEqD K) (op_eqD hr.units) (pv 3) (pcal GL hr passL (pa_cons (pv 1) (pa_cons (pv 3) pa_nil))) (nomark _))) (fun _ _ _ _ _ => (pv 3))) pa_nil)) rfl) (pss_one 
 (ps_fld (pv 0) (pcal GT hr pass0 (pa_cons (pv 1) (pa_cons (pe_fld (pv 0) rfl) pa_nil))) rfl)))))), ?_⟩
      refine ⟨_, rfl, _, rfl, tt, a, ns, "barred", rfl, hT, ha, fun H1 S1 => ?_⟩
      have k : ∀ H', But x H H' → BookAt C CB H' x ns (brd ns []) → Q .non H' := fun H' B Bk => k3 H' B (by rw [show brd ns [] = [] from List.filter_eq_nil_iff.mpr (by simp)] at Bk; exact Bk)
      have hA : ∀ t ∈ ([] : List (List Int)), t ∈ A3 ns.length ns.length := fun t ht => by cases ht
      have hx1 := S1 _ _ hx
      refine ⟨_, rfl, _, rfl, x, CB, dx, [], rfl, hx1, c.cl, c.nT, (by show 0 < 1000; decide), ?_⟩
      have hx2 : (upd H1 x (.ins CB dx (b1 tt))) x = some (.ins CB dx (b1 tt)) := upd_same
      have B2 : But x H1 (upd H1 x (.ins CB dx (b1 tt))) := But.put
      have nx := hT.ne hx nmany
      have hT2 := (hT.keep S1).off B2 nx hx1
      show tSeq _ _ _ _ (upd H1 x (.ins CB dx (b1 tt)))
      have BA : But x H (upd H1 x (.ins CB dx (b1 tt))) := (But.same S1).trans B2
      generalize upd H1 x (.ins CB dx (b1 tt)) = H2 at hx2 hT2 BA
      refine ⟨_, rfl, _, rfl, tt, a, rfl, ha, fun H3 z S3 nz TZ => ?_⟩
      rw [show ([] : List (List Int)) = brd ns [] from (List.filter_eq_nil_iff.mpr (by simp)).symm] at TZ
      have hx3 := S3 _ _ hx2
      refine ⟨_, rfl, x, CB, dx, _, rfl, hx3, c.cl, c.nB, l1 tt, ?_⟩
      have hx4 : (upd H3 x (.ins CB dx (b2 tt z))) x = some (.ins CB dx (b2 tt z)) := upd_same
      have B4 : But x H3 (upd H3 x (.ins CB dx (b2 tt z))) := But.put
      have hT4 := (hT2.keep S3).off B4 nx hx3
      have TZ4 := (NI.of_but B4 hx3).tups TZ
      have BA4 := (BA.trans (But.same S3)).trans B4
      show tSeq _ _ _ _ (upd H3 x (.ins CB dx (b2 tt z)))
      generalize upd H3 x (.ins CB dx (b2 tt z)) = H4 at hx4 hT4 TZ4 BA4
      have hLA := brd_A3 (ns := ns) (ts := [])
      have l64 : (brd ns ([])).length ≤ 64 := Nat.le_trans (List.length_filter_le _ _) (A3_len _ gb.hi)
      generalize hL : brd ns ([]) = L at TZ4 hLA l64 k
      obtain ⟨ps, e1, e2, e3⟩ := id TZ4
      refine ⟨_, rfl, x, CB, dx, _, _, rfl, hx4, c.cl, c.nB, b2_barred _ _, z, rfl, ⟨_, SqT.of e1⟩, fun D hD => ?_⟩
      refine lc_tup (K := K) (a := z) (xs := ps.map V.ref) (fun i H5 => Gro H4 H5 D ((L.take i).filter (isL ns))) (Gro.nil hD) (fun i H5 _ G => SqT.of (G.S _ _ e1)) ?_ ?_
      · rintro i y H5 hy G
        rw [List.getElem?_map] at hy
        cases ea : ps[i]? with
        | none =>
          rw [ea] at hy
          cases hy
        | some b =>
          rw [ea] at hy
          obtain rfl : V.ref b = y := Option.some.inj hy
          have li := (List.getElem?_eq_some_iff.mp ea).1
          have el : L[i]? = some L[i] := List.getElem?_eq_getElem (by omega)
          generalize L[i] = u at el
          obtain ⟨p, q, r, rfl, ip, iq, ir⟩ := A3_in (hLA u (List.mem_of_getElem? el)) (ns := ns) rfl
          have hb := G.S _ _ (e3 i b _ ea el)
          have tf := take_filter (p := isL ns) el
          refine ⟨rfl, ?_⟩
          refine ⟨_, rfl, _, rfl, _, rfl, tt, ns, .ref b, .tup ([p, q, r].map V.int), rfl, hT4.keep G.S, gb, ⟨b, rfl, hb⟩, ints_known _, fun e => ?_, fun p' q' r' e ip' iq' ir' H6 z' t' L' S6 hz' R => ?_⟩
          · have : threeB ns (.tup ([p, q, r].map V.int)) = true := three_yes (s := .tup ([p, q, r].map V.int)) rfl rfl ip iq ir
            rw [this] at e
            cases e
          · obtain ⟨rfl, rfl, rfl⟩ := ints3 (s := .tup ([p, q, r].map V.int)) rfl e
            refine ⟨_, _, .tup (SqT.of (S6 _ _ hb)) (dp_ints _), .tup (SqT.of hz') (dp_ints _), shaped_ti _, shaped_ti _, _, rfl, ?_⟩
            rw [eqv_ti, isL_iff R]
            have G6 := G.keep S6
            cases hc : isL ns [p', q', r'] with
            | true =>
              obtain ⟨acc, q1, q2, q3⟩ := G6.app (S6 _ _ hb)
              refine iteT ⟨_, rfl, acc, q1, ?_, ?_⟩
              · have := List.length_filter_le (isL ns) (L.take i)
                rw [List.length_take] at this
                rw [q2]
                exact small1000 (by omega)
              · rw [tf, if_pos hc]
                exact q3
            | false =>
              refine iteF ?_
              rw [tf, if_neg (by rw [hc]; decide), List.append_nil]
              exact G6
      · rintro H5 G
        rw [List.length_map, e2, List.take_length] at G
        obtain ⟨qs, d1, d2, d3⟩ := G.d
        refine ⟨D, _, rfl, .inl ⟨SqL.of d1, fun l hl => ?_⟩⟩
        have TL := G.tup d1 hl
        have S6 : Same H5 (upd H5 l (.tup (qs.map V.ref))) := new_same hl
        generalize upd H5 l (.tup (qs.map V.ref)) = H6 at TL S6
        have SA := G.S.trans S6
        have hx6 := SA _ _ hx4
        refine ⟨_, rfl, x, CB, dx, _, rfl, hx6, c.cl, c.nL, l2 tt z, ?_⟩
        have hx7 : (upd H6 x (.ins CB dx (b3 tt z l))) x = some (.ins CB dx (b3 tt z l)) := upd_same
        have B7 : But x H6 (upd H6 x (.ins CB dx (b3 tt z l))) := But.put
        have hT7 := (hT4.keep SA).off B7 nx hx6
        have TZ7 := (NI.of_but B7 hx6).tups (TZ4.keep SA)
        have TL7 := (NI.of_but B7 hx6).tups TL
        have BA7 := (BA4.trans (But.same SA)).trans B7
        show Ends.nx _ _ (upd H6 x (.ins CB dx (b3 tt z l)))
        generalize upd H6 x (.ins CB dx (b3 tt z l)) = H7 at hx7 hT7 TZ7 TL7 BA7
        refine ⟨_, rfl, _, rfl, x, CB, dx, _, _, rfl, hx7, c.cl, c.nB, b3_barred _ _ _, tt, z, ns, L, rfl, hT7, gb, TZ7, fun H8 r S8 nr TR => ?_⟩
        have hx8 := S8 _ _ hx7
        refine ⟨_, rfl, x, CB, dx, _, rfl, hx8, c.cl, c.nR, l3 tt z l, ?_⟩
        have B9 : But x H8 (upd H8 x (.ins CB dx (bf tt z l r))) := But.put
        have N9 := NI.of_but B9 hx8
        exact k _ ((BA7.trans (But.same S8)).trans B9) ⟨dx, tt, z, l, r, upd_same, (hT7.keep S8).off B9 nx hx8, N9.tups (TZ7.keep S8), N9.tups (TL7.keep S8), N9.tab TR⟩
end
end J

set_option Elab.async false
set_option linter.all false
set_option maxRecDepth 100000
set_option maxHeartbeats 8000000
namespace L2
open PySem PySem.Spec PyProof.Rows
/-! ### e.m(..), e a class, m a staticmethod of it -/
structure CSta (K : PySem.W.Frag) (C : Addr) (mc : Value) (m : Str) (p g : Addr) : Prop where
  at_ : PySem.W.findCls K (.ref C) mc m = some (.get (.builtin "staticmethod.__get__") (.ref p) .none (.ref C))
  rc : ∃ rest, PySem.W.recIn K p "staticmethod" = some (.ref g :: rest)
  kp : PySem.W.keepIn K (.ref g) = true
def tSta (C : Addr) (sp : Sp) (E : XK) (ta : TE) (t : TA) : TE := fun σ H Q => ta σ H fun x H1 => x = .ref C ∧ t σ H1 fun vs H2 => sp vs H2 Q E
section
variable {X : Cx} {CX : CXT} {k : Nat} {C p g : Addr} {mc : Value} {fd : FuncData} {ps : List Str} {sp : Sp} {E : XK} {o e : Expr} {es : List Expr} {m : Str} {pos apos : Pos} {ta : TE} {t : TA} {pl : Sem Bool}
theorem pe_sta (he : PE X o ta) (r : ClX.CRead X.K C mc) (c : CSta X.K C mc m p g) (F : FnOk X.prog X.w X.K X.mg X.base CX k g fd ps sp) (hr : Room k X.A) (hb : Binds X.K fd ps []) (hx : Passes CX X E) (ha : PA X (e :: es) t)
    (hst : starEach (e :: es) X.env = (false, eval e X.env) :: starEach es X.env := by rfl) (hpl : (backTo pos (starEach es X.env)).any (·.1) = false := by rfl)
    (ht : eval (.Call (.Attribute o m apos) (e :: es) [] pos) X.env = (do
      let ov ← eval o X.env
      standAt apos.atName
      let (f, first) ← holding [ov] (getMethod ov m pl)
      callWith pos f first (backTo pos (starEach (e :: es) X.env)) (backToKw pos (keywordEach [] X.env))) := by rfl) :
    PE X (.Call (.Attribute o m apos) (e :: es) [] pos) (tSta C sp E ta t) := by
  refine ⟨fun pins s σ H Q I h => ?_⟩
  refine PySem.W.methodCall_KW (pl := pl) (thn (he.run pins s σ H _ I h) fun u s1 ⟨x, H1, I1, rx, ex, q⟩ => ?_) ht
  subst ex
  obtain rfl : u = Value.ref C := rx
  obtain ⟨rest, hp⟩ := c.rc
  refine PySem.W.method_cls I1.kIn r.ga (PySem.W.cls_bind I1.kIn r.rd c.at_ (wpAny_call (PySem.W.sm_get (s := { s1 with toks := s1.toks + 1 }) I1.kIn hp (PySem.W.handed_on rfl ?_))))
  have I2 := I1.tok (s1.toks + 1)
  refine PySem.W.callWith_K (first := []) (h₀ := X.base) I.ok.mod.kin c.kp (thn (ha.run pos pins _ σ H1 _ I2 q) fun us s2 ⟨vs, H2, I3, rv, q2⟩ => ⟨I3.kIn, ?_⟩) hst hpl
  exact run_fn (us := us) (vs := vs) F hr hb .nil hx I3 rv (by rw [List.append_nil]; exact q2)
end
end L2
namespace J
open PySem PySem.Spec PyProof.Rows L2
/-- x == 5 by the text's own __eq__ -/
def rEqOwnI (C : Addr) (sp : Sp) (E : XK) : R2 := fun x y H Q => ∃ a n dx fs, x = .ref a ∧ y = .int n ∧ H a = some (.ins C dx fs) ∧ sp [x, y] H (fun v H' => (∃ c, v = .bl c) ∧ Q v H') E
theorem op_eqOwnI {X : Cx} {CX : CXT} {n : Nat} {C f : Addr} {fd : FuncData} {ps : List Str} {sp : Sp} {E : XK} (F : FnOk X.prog X.w X.K X.mg X.base CX n f fd ps sp)
    (hs : PySem.W.findIn X.K (.ref C) "__eq__" = some (some (.ref f))) (hf : PySem.W.isFn X.K (.ref f) = true) (hb : Binds X.K fd ps []) (hx : Passes CX X E) (hr : Room n X.A)
    (hn : PySem.W.notFirst X.K C (.type "int") = true) : OpR X (compareOp .Eq) (rEqOwnI C sp E) := by
  intro pins s σ H x y v u Q I rx ry ⟨a, b, dx, fs, ex, ey, ha, q⟩
  subst ex
  subst ey
  obtain rfl : v = Value.ref a := rx
  obtain ⟨t, rfl⟩ := ry
  show wpAny (model X.prog X.w) X.A (richCompare .Eq (.ref a) (.int b t)) (EP X pins σ Q) X.xe s
  obtain ⟨mA, J, _⟩ := ins_get I.hok ha
  obtain ⟨od, J, _⟩ := J.look
  obtain ⟨m, hF⟩ := I.fr
  have r2 : Vals [V.ref a, V.int b] [Value.ref a, Value.int b t] := .cons rfl (.cons ⟨t, rfl⟩ .nil)
  have fin : wpAny (model X.prog X.w) X.A (call (.ref f) [.ref a, .int b t]) (PySem.W.CmpBack (EP X pins σ Q)) X.xe s := by
    refine wpAny_mono (run_fn (dvs := []) (ds := []) (us := [.ref a, .int b t]) (vs := [.ref a, .int b]) F hr hb .nil hx I r2 q) ?_ fun _ _ z => z
    rintro w s' ⟨z, H', I', rz, ⟨c, rfl⟩, qz⟩
    obtain rfl : w = Value.bool c := rz
    exact ⟨V.bl c, H', I', rfl, qz⟩
  have LT : PySem.W.Looks (model X.prog X.w) s.heap (typeOf (.int b t)) (.type "int") := PySem.W.Looks.of_pure rfl
  exact PySem.W.cmp_K (op := .Eq) (tb := .type "int") hr.units0 hF I.ok.mod.kin J LT hn hs hf fin
/-! ### Ties.__eq__ -/
abbrev s_Ties_eq : Stmt := inClass (top 16) 1
theorem sc_Ties_eq : FnScope ["self", "other"] ["self", "other"] (defScope s_Ties_eq) := ⟨rfl, rfl, rfl, by decide +kernel, rfl, by decide +kernel, by decide +kernel⟩
def spTEq (C : Addr) : Sp := fun vs H Q _ => ∃ (a b : Addr) (ns ms : List Int), vs = [.ref a, .ref b] ∧ TiesAt C H a ns ∧ TiesAt C H b ms ∧ Q (.bl (decide (ns = ms))) H
abbrev s_Book_eq : Stmt := inClass (top 29) 2
theorem sc_Book_eq : FnScope ["self", "other"] ["self", "other"] (defScope s_Book_eq) := ⟨rfl, rfl, rfl, by decide +kernel, rfl, by decide +kernel, by decide +kernel⟩
def spBEq (C CB : Addr) : Sp := fun vs H Q _ => ∃ (x : Addr) (y : V) (ns : List Int) (L : List (List Int)), vs = [.ref x, y] ∧ BookAt C CB H x ns L ∧
  ((∃ (y' : Addr) (ms : List Int) (M : List (List Int)), y = .ref y' ∧ BookAt C CB H y' ms M ∧ Q (.bl (decide (ns = ms ∧ L = M))) H) ∨ ((∃ n, y = .int n) ∧ Q (.bl false) H))
abbrev s_check_each : Stmt := inClass (top 29) 18
theorem sc_check_each : FnScope ["self", "ties", "tie"] ["self", "ties"] (defScope s_check_each) := ⟨rfl, rfl, rfl, by decide +kernel, rfl, by decide +kernel, by decide +kernel⟩
/-- the first thing that is no tie -/
def FirstNo (ns : List Int) (ys : List V) (y : V) : Prop := ∃ j : Nat, ys[j]? = some y ∧ tieB ns y = false ∧ ∀ (i : Nat) (y' : V), i < j → ys[i]? = some y' → tieB ns y' = true
def spEach (C CB CN : Addr) : Sp := fun vs H Q E => ∃ (x z : Addr) (ns : List Int) (L : List (List Int)) (ys : List V), vs = [.ref x, .ref z] ∧ BookAt C CB H x ns L ∧ H z = some (.tup ys) ∧ Known H ys ∧ (∀ y, FirstNo ns ys y → Tells H CN "tie" y E) ∧ ((∀ y ∈ ys, tieB ns y = true) → Q .non H)
abbrev s_Book_bars : Stmt := inClass (top 29) 5
theorem sc_Book_bars : FnScope ["self", "p", "q", "r"] ["self", "p", "q", "r"] (defScope s_Book_bars) := ⟨rfl, rfl, rfl, by decide +kernel, rfl, by decide +kernel, by decide +kernel⟩
def spBars (C CB CN : Addr) : Sp := fun vs H Q E => ∃ (x : Addr) (ns : List Int) (L : List (List Int)) (a b c : V), vs = [.ref x, a, b, c] ∧ BookAt C CB H x ns L ∧ Known H [a, b, c] ∧ (∀ y, FirstNo ns [a, b, c] y → Tells H CN "tie" y E) ∧
  (∀ p q r : Nat, a = .int p → b = .int q → c = .int r → p < ns.length → q < ns.length → r < ns.length → ∀ H', Same H H' → Q (.bl (decide ([(p : Int), (q : Int), (r : Int)] ∈ L))) H')
abbrev s_Book_fitting : Stmt := inClass (top 29) 6
theorem sc_Book_fitting : FnScope ["self", "p", "q", "barred", "r"] ["self", "p", "q"] (defScope s_Book_fitting) := ⟨rfl, rfl, rfl, by decide +kernel, rfl, by decide +kernel, by decide +kernel⟩
/-- the ties that fit -/
def fitL (L : List (List Int)) (n p q : Nat) : List Int := ((List.range n).filter fun r : Nat => !decide ([(p : Int), (q : Int), (r : Int)] ∈ L)).map fun r : Nat => (r : Int)
def spFit (C CB CN : Addr) : Sp := fun vs H Q E => ∃ (x : Addr) (ns : List Int) (L : List (List Int)) (a b : V), vs = [.ref x, a, b] ∧ BookAt C CB H x ns L ∧ GoodB ns ∧ Known H [a, b] ∧ (∀ y, FirstNo ns [a, b] y → Tells H CN "tie" y E) ∧
  (∀ p q : Nat, a = .int p → b = .int q → p < ns.length → q < ns.length → ∀ (H' : Hp) (z : Addr), Same H H' → H z = none → H' z = some (.tup ((fitL L ns.length p q).map V.int)) → Q (.ref z) H')
abbrev s_Book_barring : Stmt := inClass (top 29) 7
theorem sc_Book_barring : FnScope ["self", "t", "p", "q", "r"] ["self", "t"] (defScope s_Book_barring) := ⟨rfl, rfl, rfl, by decide +kernel, rfl, by decide +kernel, by decide +kernel⟩
/-- the couples that a tie is barred with -/
def cpl (t : List Int) : List Int := t.take 2
def cplL (L : List (List Int)) (p : Nat) : List (List Int) := (L.filter fun t => decide (t[2]? = some (p : Int))).map cpl
def spBarring (C CB CN : Addr) : Sp := fun vs H Q E => ∃ (x : Addr) (ns : List Int) (L : List (List Int)) (a : V), vs = [.ref x, a] ∧ BookAt C CB H x ns L ∧ (∀ t ∈ L, t ∈ A3 ns.length ns.length) ∧ L.length ≤ 64 ∧ Known H [a] ∧ (∀ y, FirstNo ns [a] y → Tells H CN "tie" y E) ∧
  (∀ p : Nat, a = .int p → p < ns.length → ∀ (H' : Hp) (z : Addr), Same H H' → H z = none → TupsAt H' z (cplL L p) → Q (.ref z) H')
theorem tie_nat {ns : List Int} {p : Nat} (h : p < ns.length) : tieB ns (.int (p : Nat)) = true := tie_in ⟨by omega, by omega⟩
theorem TabAt.get {n : Nat} {L : List (List Int)} {H : Hp} {z : Addr} {p q : Nat} (h : TabAt n L H z) (hp : p < n) (hq : q < n) : ∃ (ps qs : List Addr) (a b : Addr), H z = some (.tup (ps.map V.ref)) ∧ ps[p]? = some a ∧ H a = some (.tup (qs.map V.ref)) ∧ qs[q]? = some b ∧ H b = some (.tup (rowB L n p q n)) := by
  obtain ⟨ps, e, l, f⟩ := h
  have ep : ps[p]? = some ps[p] := List.getElem?_eq_getElem (by omega)
  obtain ⟨qs, e2, l2, f2⟩ := f p _ ep
  have eq : qs[q]? = some qs[q] := List.getElem?_eq_getElem (by omega)
  exact ⟨ps, qs, _, _, e, ep, e2, eq, f2 q _ eq⟩
theorem rowB_at {L : List (List Int)} {n p q r : Nat} (h : r < n) : (rowB L n p q n)[r]? = some (.bl (decide ([(p : Int), (q : Int), (r : Int)] ∈ L))) := by
  unfold rowB
  rw [List.getElem?_map, List.getElem?_range h]
  rfl
theorem ref_at {ps : List Addr} {p : Nat} {a : Addr} (h : ps[p]? = some a) : (ps.map V.ref)[p]? = some (.ref a) := by
  rw [List.getElem?_map, h]
  rfl
section
variable {P : Program} {w : World} {K : PySem.W.Frag} {mg : Str → Option Value} {base : Heap}
theorem ok_Ties_eq {f C : Addr} {fd : FuncData} (F : Fun K "__eq__" "Ties.__eq__" s_Ties_eq f fd) (T : TiX K mg C) (nis : mg "isinstance" = none) : FnOk P w K mg base CX0 1 f fd ["self", "other"] (spTEq C) := by
  refine F.ok sc_Ties_eq (fun vs H Q E h => ?_) (fun cdv A outer s H vs Q E hr h => ?_)
  · obtain ⟨a, b, ns, ms, rfl, _⟩ := h
    rfl
  · obtain ⟨a, b, ns, ms, rfl, ⟨dx, t, ha, ht⟩, ⟨dy, u, hb, hu⟩, k⟩ := h
    refine ⟨_, (pss_one 
  (ps_ret (pe_and (pe_callB call_isi (by rfl) nis (by decide +kernel) (pa_cons (pv 1) (pa_cons (pe_glob (v := .ref C) rfl T.mT rfl) pa_nil))) (pe_one (pe_cmpR (op_eqD hr.units) (pe_fld (pv 0) rfl) (pe_fld (pv 1) rfl) (nomark _)))))), ?_⟩
    refine ⟨_, rfl, _, _, _, _, true, rfl, .own C, .base (.ins hb T.cl T.isc.ha T.isc.hn T.isc.htk T.isc.hm), T.isc.me, _, rfl, if_tr rfl ?_⟩
    refine ⟨_, rfl, a, C, dx, _, _, rfl, ha, T.cl, T.nB, tf_backs _ _, _, rfl, b, C, dy, _, _, rfl, hb, T.cl, T.nB, tf_backs _ _, _, _, .tup (SqT.of ht) (dp_ints ns), .tup (SqT.of hu) (dp_ints ms), shaped_ti ns, shaped_ti ms, ?_⟩
    rw [eqv_ti]
    exact k
theorem eqv_tups : ∀ L M : List (List Int), PyData.eqvAll (tupsD L) (tupsD M) = decide (L = M)
  | [], [] => by simp [tupsD, PyData.eqvAll]
  | [], u :: us => by simp [tupsD, PyData.eqvAll]
  | t :: ts, [] => by simp [tupsD, PyData.eqvAll]
  | t :: ts, u :: us => by
    have ih := eqv_tups ts us
    have h1 := eqv_ti t u
    show (PyData.eqv (.tuple (t.map PyData.int)) (.tuple (u.map PyData.int)) && PyData.eqvAll (tupsD ts) (tupsD us)) = _
    rw [h1, ih]
    by_cases h : t = u
    · by_cases h2 : ts = us
      · simp [h, h2]
      · simp [h, h2]
    · simp [h]
theorem eqv_tupT (L M : List (List Int)) : PyData.eqv (.tuple (tupsD L)) (.tuple (tupsD M)) = decide (L = M) := by
  rw [show PyData.eqv (.tuple (tupsD L)) (.tuple (tupsD M)) = PyData.eqvAll (tupsD L) (tupsD M) by simp only [PyData.eqv], eqv_tups]
theorem ok_Book_eq {f C CB fE : Addr} {fd fdE : FuncData} (F : Fun K "__eq__" "Book.__eq__" s_Book_eq f fd) (T : TiX K mg C) (c : BoX K mg CB) (nis : mg "isinstance" = none)
    (FE : FnOk P w K mg base CX0 1 fE fdE ["self", "other"] (spTEq C)) (aE : PySem.W.findIn K (.ref C) "__eq__" = some (some (.ref fE))) (iE : PySem.W.isFn K (.ref fE) = true) (bE : Binds K fdE ["self", "other"] []) : FnOk P w K mg base CX0 2 f fd ["self", "other"] (spBEq C CB) := by
  refine F.ok sc_Book_eq (fun vs H Q E h => ?_) (fun cdv A outer s H vs Q E hr h => ?_)
  · obtain ⟨x, y, ns, L, rfl, _⟩ := h
    rfl
  · obtain ⟨x, y, ns, L, rfl, ⟨dx, t, b, l, r, a1, a2, a3, a4, a5⟩, h⟩ := h
    refine ⟨_, (pss_one 
  (ps_ret (pe_and (pe_callB call_isi (by rfl) nis (by decide +kernel) (pa_cons (pv 1) (pa_cons (pe_glob (v := .ref CB) rfl c.mB rfl) pa_nil))) (pe_and (pe_cmpR (op_eqOwn FE aE iE bE pass0 hr T.nf) (pe_fld (pv 0) rfl) (pe_fld (pv 1) rfl) (nomark _)) (pe_one (pe_cmpR (op_eqD hr.units) (pe_fld (pv 0) rfl) (pe_fld (pv 1) rfl) (nomark _))))))), ?_⟩
    rcases h with ⟨y', ms, M, rfl, ⟨dy, t', b', l', r', c1, c2, c3, c4, c5⟩, k⟩ | ⟨⟨n, rfl⟩, k⟩
    · obtain ⟨d1, tb1, w1, w2⟩ := id a2
      obtain ⟨d2, tb2, w3, w4⟩ := id c2
      refine ⟨_, rfl, _, _, _, _, true, rfl, .own CB, .base (.ins c1 c.cl c.isc.ha c.isc.hn c.isc.htk c.isc.hm), c.isc.me, _, rfl, if_tr rfl ?_⟩
      refine ⟨_, rfl, x, CB, dx, _, _, rfl, a1, c.cl, c.nT, bf_ties _ _ _ _, _, rfl, y', CB, dy, _, _, rfl, c1, c.cl, c.nT, bf_ties _ _ _ _, t, t', d1, _, rfl, rfl, w1, .inl ⟨d2, _, w3⟩, t, t', ns, ms, rfl, a2, c2, ⟨_, rfl⟩, _, rfl, ?_⟩
      by_cases h1 : ns = ms
      case neg =>
        refine if_fa (decide_eq_false h1) ?_
        rw [decide_eq_false (fun z => h1 z.1)] at k
        exact k
      refine if_tr (decide_eq_true h1) ?_
      refine ⟨_, rfl, x, CB, dx, _, _, rfl, a1, c.cl, c.nB, bf_barred _ _ _ _, _, rfl, y', CB, dy, _, _, rfl, c1, c.cl, c.nB, bf_barred _ _ _ _, _, _, a3.data, c3.data, shaped_tupsT L, shaped_tupsT M, ?_⟩
      rw [eqv_tupT]
      have e : decide (L = M) = decide (ns = ms ∧ L = M) := by simp [h1]
      rw [e]
      exact k
    · exact ⟨_, rfl, _, _, _, _, false, rfl, .own CB, .base (.int n), c.ni, _, rfl, if_fa rfl k⟩
end
end J

set_option Elab.async false
set_option linter.all false
set_option maxRecDepth 100000
set_option maxHeartbeats 8000000
namespace J
open PySem PySem.Spec PyProof.Rows L2
theorem fit_take {L : List (List Int)} {p q i : Nat} : ((List.range (i + 1)).filter fun r : Nat => !decide ([(p : Int), (q : Int), (r : Int)] ∈ L)) = ((List.range i).filter fun r : Nat => !decide ([(p : Int), (q : Int), (r : Int)] ∈ L)) ++ (if (!decide ([(p : Int), (q : Int), (i : Int)] ∈ L)) = true then [i] else []) := by
  rw [List.range_succ, List.filter_append]
  have e : [i].filter (fun r : Nat => !decide ([(p : Int), (q : Int), (r : Int)] ∈ L)) = if (!decide ([(p : Int), (q : Int), (i : Int)] ∈ L)) = true then [i] else [] := by
    simp only [List.filter]
    cases hc : (!decide ([(p : Int), (q : Int), (i : Int)] ∈ L)) <;> rfl
  rw [e]
theorem fit_len {L : List (List Int)} {p q i : Nat} : (fitL L i p q).length ≤ i := by
  unfold fitL
  rw [List.length_map]
  have := List.length_filter_le (fun r : Nat => !decide ([(p : Int), (q : Int), (r : Int)] ∈ L)) (List.range i)
  rw [List.length_range] at this
  exact this
section
variable {P : Program} {w : World} {K : PySem.W.Frag} {mg : Str → Option Value} {base : Heap}
end
end J

set_option Elab.async false
set_option linter.all false
set_option maxRecDepth 100000
set_option maxHeartbeats 8000000
namespace J
open PySem PySem.Spec PyProof.Rows L2
/-! ### books are made -/
theorem ArgB.mono {C CE : Addr} {w : Str} {t v : V} {H H' : Hp} {E : XK} {k k' : List Int → List (List Int) → Prop} (h : ArgB C CE w t v H E k) (S : Same H H') (hk : ∀ ns ts, k ns ts → k' ns ts) : ArgB C CE w t v H' E k' := by
  rcases h with ⟨⟨z, xs, e, hz⟩, T⟩ | ⟨x, ns, s, ss, e, hT, gb, hv, hs, k1, k2, k3⟩
  · exact .inl ⟨⟨z, xs, e, S _ _ hz⟩, T.mono S⟩
  · exact .inr ⟨x, ns, s, ss, e, hT.keep S, gb, hv.keep S, hs.keep S, fun a => (k1 a).mono S, fun j s' a b c d => (k2 j s' a b c d).mono S, fun a b => hk _ _ (k3 a b)⟩
theorem ArgB.good {C CE : Addr} {w : Str} {v : V} {H : Hp} {E : XK} {k : List Int → List (List Int) → Prop} {x : Addr} {ns : List Int} {s : Sh} {ss : List Sh} (hT : TiesAt C H x ns) (gb : GoodB ns) (hv : Is H v s) (sq : (s.isL || s.isT) = true) (hs : ShAll H (items s) ss)
    (hb : ∀ s' ∈ ss, threeB ns s' = true) (hk : k ns (trs ss)) : ArgB C CE w (.ref x) v H E k :=
  .inr ⟨x, ns, s, ss, rfl, hT, gb, hv, hs, (fun a => by rw [sq] at a; cases a), (fun j s' _ e1 e2 _ => by rw [hb s' (List.mem_of_getElem? e1)] at e2; cases e2), fun _ _ => hk⟩
/-- the book that is made -/
abbrev BookK (C CB : Addr) (H : Hp) (R : Addr → VK) : List Int → List (List Int) → Prop := fun ns ts => ∀ H' x, Same H H' → H x = none → BookAt C CB H' x ns (brd ns ts) → R x .non H'
theorem mk_book {K : PySem.W.Frag} {C CB CE : Addr} {t v : V} {H : Hp} {E : XK} {R : Addr → VK} (h : ArgB C CE "barred" t v H E (BookK C CB H R)) :
    ∀ x dx, H x = none → H dx = none → dx ≠ x → spBI K C CB CE [.ref x, t, v] (upd (upd H dx (.own x)) x (.ins CB dx [])) (R x) E := fun x dx hx hd _ =>
  ⟨x, dx, t, v, rfl, upd_same, .inl (h.mono (made_same (H := H) (o := .own x) (u := .ins CB dx []) hx hd) fun ns ts k H' B Bk => k H' x (made_but hx hd B) hx Bk)⟩
theorem mk_book0 {K : PySem.W.Frag} {C CB CE : Addr} {tt a : Addr} {ns : List Int} {H : Hp} {E : XK} {R : Addr → VK} (hT : TiesAt C H tt ns) (gb : GoodB ns) (ha : KT K a) (k : ∀ H' x, Same H H' → H x = none → BookAt C CB H' x ns [] → R x .non H') :
    ∀ x dx, H x = none → H dx = none → dx ≠ x → spBI K C CB CE [.ref x, .ref tt, .ref a] (upd (upd H dx (.own x)) x (.ins CB dx [])) (R x) E := fun x dx hx hd _ =>
  ⟨x, dx, .ref tt, .ref a, rfl, upd_same, .inr ⟨tt, a, ns, rfl, rfl, hT.keep (made_same (H := H) (o := .own x) (u := .ins CB dx []) hx hd), gb, ha, fun H' B Bk => k H' x (made_but hx hd B) hx Bk⟩⟩
theorem sh_three {ns : List Int} {t : List Int} (h : t ∈ A3 ns.length ns.length) : threeB ns (.tup (t.map V.int)) = true := by
  obtain ⟨p, q, r, rfl, ip, iq, ir⟩ := A3_in h (ns := ns) rfl
  exact three_yes (s := .tup ([p, q, r].map V.int)) rfl rfl ip iq ir
def shT (L : List (List Int)) : List Sh := L.map fun t => Sh.tup (t.map V.int)
theorem trs_shT : ∀ L : List (List Int), trs (shT L) = L
  | [] => rfl
  | t :: L => by
    show (t.map V.int).map ofV :: trs (shT L) = t :: L
    rw [trs_shT L, List.map_map]
    congr 1
    have : (ofV ∘ V.int) = id := rfl
    rw [this, List.map_id]
theorem sh_tups {H : Hp} : ∀ {ps : List Addr} {L : List (List Int)}, ps.length = L.length → (∀ (j : Nat) (a : Addr) (ts : List Int), ps[j]? = some a → L[j]? = some ts → H a = some (.tup (ts.map V.int))) → ShAll H (ps.map V.ref) (shT L)
  | [], [], _, _ => .nil
  | [], _ :: _, h, _ => by cases h
  | _ :: _, [], h, _ => by cases h
  | p :: ps, t :: ts, h, f => .cons ⟨⟨p, rfl, f 0 p t rfl rfl⟩, ints_known t⟩ (sh_tups (Nat.succ.inj h) fun j a b e1 e2 => f (j + 1) a b (by simpa using e1) (by simpa using e2))
theorem LstsAt.arg {C CE : Addr} {w : Str} {H : Hp} {E : XK} {k : List Int → List (List Int) → Prop} {x z : Addr} {ns : List Int} {L : List (List Int)} (h : LstsAt H z L) (hT : TiesAt C H x ns) (gb : GoodB ns) (hA : ∀ t ∈ L, t ∈ A3 ns.length ns.length) (hk : k ns L) : ArgB C CE w (.ref x) (.ref z) H E k := by
  obtain ⟨ps, e1, e2, e3⟩ := h
  refine ArgB.good hT gb (s := .lst (ps.map V.ref)) ⟨z, rfl, e1⟩ rfl (sh_tups e2 e3) (fun s' hs' => ?_) (by rw [trs_shT]; exact hk)
  obtain ⟨t, ht, rfl⟩ := List.mem_map.mp hs'
  exact sh_three (hA t ht)
abbrev s_Book_letting : Stmt := inClass (top 29) 1
theorem sc_Book_letting : FnScope ["ties", "threes"] ["ties", "threes"] (defScope s_Book_letting) := ⟨rfl, rfl, rfl, by decide +kernel, rfl, by decide +kernel, by decide +kernel⟩
def spLet (C CB CE : Addr) : Sp := fun vs H Q E => ∃ t v : V, vs = [t, v] ∧ ArgB C CE "threes" t v H E (fun ns ts => ∀ H' x, Same H H' → H x = none → BookAt C CB H' x ns (lts ns ts) → Q (.ref x) H')
section
variable {P : Program} {w : World} {K : PySem.W.Frag} {mg : Str → Option Value} {base : Heap}
end
end J

set_option Elab.async false
set_option linter.all false
set_option maxRecDepth 100000
set_option maxHeartbeats 4000000
/-! min(xs), xs a list of tuples of ints: the comparison looks at the heap, so what stood before the call has to stay -/
namespace TM
open PySem PyProof.Rows
/-- everything that stood in h0 stands -/
def Old (h0 h : Heap) : Prop := ∀ b o, h0.get? b = some o → h.get? b = some o
theorem Old.but {h0 h h' : Heap} {wr : List Addr} {S : Addr} (x : Old h0 h) (hw : ∀ b ∈ wr, h0.objs.size ≤ b) (hS : h0.objs.size ≤ S) (k : ∀ b o, b ∉ wr → b ≠ S → h.get? b = some o → h'.get? b = some o) : Old h0 h' := fun b o e =>
  k b o (fun m => Nat.not_lt.mpr (hw b m) (Heap.lt_size e)) (fun q => by subst q; exact Nat.not_lt.mpr hS (Heap.lt_size e)) (x b o e)
section
variable {prog : Program} {w : World} {A : Around} {R : Result → Shared → Prop} {I : Addr} {fp wr : List Addr} {n : Nat} {P : Nat → Value → Prop} {St : Nat → Heap → Prop}
def LtOld (prog : Program) (w : World) (A : Around) (h0 : Heap) (P : Nat → Value → Prop) (bt : Nat → Nat → Bool) : Prop :=
  ∀ i j vi vj (s : Shared) (Q : Value → Shared → Prop) (E : Value → Shared → Prop), Old h0 s.heap → P i vi → P j vj → Q (.bool (bt i j)) s → wpAny (model prog w) A (richCompare .Lt vi vj) Q E s
theorem loop_from (h0 : Heap) (W : Walks prog w A.in1 I fp wr n P St) (bt : Nat → Nat → Bool) (cmp : LtOld prog w A.in1 h0 P bt) (S : Addr) (nS : S ∉ fp) (hw : ∀ b ∈ wr, h0.objs.size ≤ b) (hS0 : h0.objs.size ≤ S) :
    ∀ (m j : Nat) (s : Shared) (best : Value) (c : Nat), n - (j + 1) = m → j + 1 ≤ n → Old h0 s.heap → St (j + 1) s.heap → P (argBest bt j) best →
    s.heap.get? S = some { cls := .type "list", dict := none, data := .seq #[best, best] c, slots := #[] } →
    (∀ v h' tk, P (argBest bt (n - 1)) v → Old h0 h' → R (.ok (.ret v)) { s with heap := h', toks := tk }) →
    codeAny (model prog w) A (.builtin "min.loop" ⟨[.ref I, .none, .ref S], []⟩) R s := by
  have nW : S ∉ wr := fun q => nS (W.sub _ q)
  have nm : (toString "min" ++ toString ".loop" : String) = "min.loop" := by decide
  intro m
  induction m with
  | zero =>
    intro j s best c em hj old hst pb hS fin
    have ej : j + 1 = n := by omega
    refine codeAny_builtin F.entry_min_loop ?_
    rw [Around.under_plainId F.plain_min_loop _]
    show wpAny _ A.in1 (seqItems? (.ref S) >>= _) _ _ s
    refine wpAny_bind (wpAny_seqItems hS rfl ?_)
    show wpAny _ A.in1 (tryCatch (pyNext (.ref I)) _ >>= _) _ _ s
    refine wpAny_bind (wpAny_tryCatch (W.done s _ _ (ej ▸ hst) fun h1 tk k1 => ?_))
    have hS1 := k1 S _ nW hS
    show wpAny _ A.in1 (updateSeq S (fun _ => #[]) >>= _) _ _ _
    refine wpAny_bind ?_
    refine wpAny_updateSeq hS1 rfl (wpAny_bind (wpAny_letGo (wpAny_pure ?_)))
    exact fin best _ tk (by rw [← ej]; exact pb) (old.but hw hS0 fun b o q1 q2 e => (Heap.get?_update_other _ _ (Ne.symm q2)).trans (k1 b o q1 e))
  | succ m ih =>
    intro j s best c em hj old hst pb hS fin
    have lt : j + 1 < n := by omega
    refine codeAny_builtin F.entry_min_loop ?_
    rw [Around.under_plainId F.plain_min_loop _]
    show wpAny _ A.in1 (seqItems? (.ref S) >>= _) _ _ s
    refine wpAny_bind (wpAny_seqItems hS rfl ?_)
    show wpAny _ A.in1 (tryCatch (pyNext (.ref I)) _ >>= _) _ _ s
    refine wpAny_bind (wpAny_tryCatch (W.item (j + 1) s _ _ lt hst fun v h1 tk pv st1 k1 => ?_))
    have hS1 := k1 S _ nW hS
    have old1 : Old h0 h1 := old.but hw hS0 fun b o q1 _ e => k1 b o q1 e
    show wpAny _ A.in1 (tryCatch (holding [v, v] (richCompare .Lt v best >>= _)) _ >>= _) _ _ _
    refine wpAny_bind (wpAny_tryCatch (wpAny_holding (wpAny_bind (cmp (j + 1) (argBest bt j) v best _ _ _ old1 pv pb ?_))))
    refine wpAny_bind (wpAny_holding (wpAny_truthy_bool ?_))
    refine wpAny_bind (wpAny_letGo (wpAny_pure ?_))
    cases hb : bt (j + 1) (argBest bt j) with
    | true =>
      simp only [if_true]
      refine wpAny_bind ?_
      refine wpAny_updateSeq hS1 rfl (wpAny_bind (wpAny_letGo ?_))
      rw [nm]
      refine wpAny_pure ⟨plainId_quiet F.plain_min_loop _, ih (j + 1) _ v _ (by omega) lt (old1.but hw hS0 fun b o _ q e => (Heap.get?_update_other _ _ (Ne.symm q)).trans e) (W.frame _ _ _ st1 fun b mb o e => ?_) (by simp only [argBest, hb, if_true]; exact pv) (Heap.get?_update_self _ hS1 rfl) fin⟩
      exact (Heap.get?_update_other _ _ (fun q : S = b => nS (by rw [q]; exact mb))).trans e
    | false =>
      simp only [Bool.false_eq_true, if_false]
      refine wpAny_bind (wpAny_letGo ?_)
      rw [nm]
      exact wpAny_pure ⟨plainId_quiet F.plain_min_loop _, ih (j + 1) _ best c (by omega) lt old1 st1 (by simp only [argBest, hb, Bool.false_eq_true, if_false]; exact pb) hS1 fin⟩
theorem loop_all (h0 : Heap) (W : Walks prog w A.in1 I fp wr n P St) (bt : Nat → Nat → Bool) (cmp : LtOld prog w A.in1 h0 P bt) (S : Addr) (nS : S ∉ fp) (hw : ∀ b ∈ wr, h0.objs.size ≤ b) (hS0 : h0.objs.size ≤ S) (hn : 0 < n) {s : Shared} {c : Nat} (old : Old h0 s.heap) (hst : St 0 s.heap)
    (hS : s.heap.get? S = some { cls := .type "list", dict := none, data := .seq #[] c, slots := #[] }) (fin : ∀ v h' tk, P (argBest bt (n - 1)) v → Old h0 h' → R (.ok (.ret v)) { s with heap := h', toks := tk }) :
    codeAny (model prog w) A (.builtin "min.loop" ⟨[.ref I, .none, .ref S], []⟩) R s := by
  have nW : S ∉ wr := fun q => nS (W.sub _ q)
  have nm : (toString "min" ++ toString ".loop" : String) = "min.loop" := by decide
  refine codeAny_builtin F.entry_min_loop ?_
  rw [Around.under_plainId F.plain_min_loop _]
  show wpAny _ A.in1 (seqItems? (.ref S) >>= _) _ _ s
  refine wpAny_bind (wpAny_seqItems hS rfl ?_)
  show wpAny _ A.in1 (tryCatch (pyNext (.ref I)) _ >>= _) _ _ s
  refine wpAny_bind (wpAny_tryCatch (W.item 0 s _ _ hn hst fun v h1 tk pv st1 k1 => ?_))
  have hS1 := k1 S _ nW hS
  have old1 : Old h0 h1 := old.but hw hS0 fun b o q1 _ e => k1 b o q1 e
  show wpAny _ A.in1 (updateSeq S (fun _ => #[v, v]) >>= _) _ _ _
  refine wpAny_bind ?_
  refine wpAny_updateSeq hS1 rfl ?_
  rw [nm]
  refine wpAny_pure ⟨plainId_quiet F.plain_min_loop _, loop_from h0 W bt cmp S nS hw hS0 _ 0 _ v _ rfl hn (old1.but hw hS0 fun b o _ q e => (Heap.get?_update_other _ _ (Ne.symm q)).trans e) (W.frame _ _ _ st1 fun b mb o e => ?_) pv (Heap.get?_update_self _ hS1 rfl) fin⟩
  exact (Heap.get?_update_other _ _ (fun q : S = b => nS (by rw [q]; exact mb))).trans e
end
section
variable {prog : Program} {w : World} {A : Around} {E : Value → Shared → Prop} {s : Shared}
theorem min_list {l : Addr} {items : Array Value} {bt : Nat → Nat → Bool} {Q : Value → Shared → Prop} (hh : A.handled = none) (hl : s.heap.IsList l items) (hn : 0 < items.size) (cmp : LtOld prog w A.in1 s.heap (fun i v => items[i]? = some v) bt)
    (fin : ∀ v h' tk, items[argBest bt (items.size - 1)]? = some v → Old s.heap h' → Q v { s with heap := h', toks := tk }) : wpAny (model prog w) A (call (.builtin "min") [.ref l]) Q E s := by
  have nm : (toString "min" ++ toString ".loop" : String) = "min.loop" := by decide
  have lt : l < s.heap.objs.size := let ⟨_, e, _⟩ := hl; Heap.lt_size e
  refine call_function_tree F.kind_min F.plain_min F.entry_min (F.args_min1 _) ?_
  show wpAny _ A.in1 (Builtin.Builtins.bindParams "min" ["key", "default"] 0 ⟨[], []⟩ >>= _) _ _ s
  refine wpAny_bind (wpAny_of_eq (show Builtin.Builtins.bindParams "min" ["key", "default"] 0 ⟨[], []⟩ = pure [none, none] from rfl) ?_)
  refine wpAny_bind (wpAny_pure ?_)
  refine wpAny_bind (wpAny_pyIter_list hl ?_)
  refine wpAny_bind (wpAny_newObj_type ?_)
  rw [nm]
  have W := Walks.list (prog := prog) (w := w) (A := A.in1) hh s.heap.objs.size l (Nat.ne_of_lt lt) items
  refine wpAny_pure ⟨plainId_quiet F.plain_min_loop _, loop_all s.heap W bt cmp _ ?_ ?_ ?_ hn (fun b o e => Heap.get?_push_of_some _ (Heap.get?_push_of_some _ e)) (W.frame _ _ _ ⟨⟨_, Heap.get?_push_size _ rfl, rfl, rfl⟩, ?_⟩ fun b _ o e => Heap.get?_push_of_some _ e) (Heap.get?_push_size _ rfl) fun v h' tk p old => fin v h' tk p old⟩
  · intro m
    have z := Heap.size_push s.heap { cls := .type "list_iterator", data := .fields #[.ref l, .int 0 0] }
    rcases List.mem_cons.mp m with q | q
    · exact absurd q (Nat.ne_of_gt (Nat.lt_of_lt_of_eq (Nat.lt_succ_self _) z.symm))
    · exact absurd (List.mem_singleton.mp q) (Nat.ne_of_gt (Nat.lt_of_lt_of_eq (Nat.lt_succ_of_lt lt) z.symm))
  · intro b m
    rw [List.mem_singleton.mp m]
    exact Nat.le_refl _
  · rw [Heap.size_push]
    exact Nat.le_succ _
  · obtain ⟨o, e, x⟩ := hl
    exact ⟨o, Heap.get?_push_of_some _ e, x⟩
end
end TM

set_option Elab.async false
set_option linter.all false
set_option maxRecDepth 100000
set_option maxHeartbeats 8000000
namespace L2
open PySem PySem.Spec PyProof.Rows
theorem refs_only : ∀ {ps : List Addr} {us : List Value}, Vals (ps.map V.ref) us → us = ps.map Value.ref
  | [], _, .nil => rfl
  | p :: ps, _, .cons r t => by
    cases r
    rw [refs_only t]
    rfl
theorem code3 (a b c : Int) : TS.code 4 [a, b, c] = a * 16 + (b * 4 + c) := by
  show a * 4 ^ 2 + (b * 4 ^ 1 + (c * 4 ^ 0 + 0)) = _
  have e2 : (4 : Int) ^ 2 = 16 := by decide
  have e1 : (4 : Int) ^ 1 = 4 := by decide
  have e0 : (4 : Int) ^ 0 = 1 := by decide
  rw [e2, e1, e0]
  omega
theorem lex3 {ns ms : List Int} (l1 : ns.length = 3) (l2 : ms.length = 3) (b1 : TS.Bd 4 ns) (b2 : TS.Bd 4 ms) :
    Ob.lexAt (fun j => decide (ns.getD j 0 = ms.getD j 0)) (fun j => decide (ns.getD j 0 < ms.getD j 0)) (decide (ns.length < ms.length)) 0 (min ns.length ms.length) = decide (TS.code 4 ns < TS.code 4 ms) := by
  obtain ⟨a, b, c, rfl⟩ : ∃ a b c, ns = [a, b, c] := match ns, l1 with | [a, b, c], _ => ⟨a, b, c, rfl⟩
  obtain ⟨a', b', c', rfl⟩ : ∃ a b c, ms = [a, b, c] := match ms, l2 with | [a, b, c], _ => ⟨a, b, c, rfl⟩
  have p1 := b1 a (by simp)
  have p2 := b1 b (by simp)
  have p3 := b1 c (by simp)
  have q1 := b2 a' (by simp)
  have q2 := b2 b' (by simp)
  have q3 := b2 c' (by simp)
  rw [code3, code3]
  show (if decide (a = a') = true then (if decide (b = b') = true then (if decide (c = c') = true then decide (3 < 3) else decide (c < c')) else decide (b < b')) else decide (a < a')) = _
  by_cases h1 : a = a'
  · rw [if_pos (decide_eq_true h1)]
    by_cases h2 : b = b'
    · rw [if_pos (decide_eq_true h2)]
      by_cases h3 : c = c'
      · rw [if_pos (decide_eq_true h3), decide_eq_false (by decide), decide_eq_false (by omega)]
      · rw [if_neg (by simpa using h3)]
        exact decide_eq_decide.mpr (by omega)
    · rw [if_neg (by simpa using h2)]
      exact decide_eq_decide.mpr (by omega)
  · rw [if_neg (by simpa using h1)]
    exact decide_eq_decide.mpr (by omega)
/-- min(xs), xs a list of tuples of three ties -/
def rMinT : List V → Hp → VK → Prop := fun vs H Q => ∃ (a : Addr) (L : List (List Int)), vs = [V.ref a] ∧ J.LstsAt H a L ∧ 0 < L.length ∧ (∀ t ∈ L, t.length = 3 ∧ TS.Bd 4 t) ∧ ∀ (z : Addr) (t : List Int), t ∈ L → (∀ u ∈ L, TS.code 4 t ≤ TS.code 4 u) → H z = some (.tup (t.map V.int)) → Q (.ref z) H
section
variable {X : Cx}
theorem cr_minT (hc : X.calm = true) (hu : X.A.units + 64 < cLine) : CallR X (.builtin "min") rMinT := by
  intro pins s σ H vs us Q I r h
  obtain ⟨a, L, rfl, ⟨ps, e1, e2, e3⟩, hne, hB, q⟩ := h
  obtain ⟨its, rv, hl, hz⟩ := I.list (SqL.of e1)
  have ei := refs_only rv
  subst ei
  rw [Vals.ref1 r]
  have sz : (ps.map Value.ref).toArray.size = L.length := by simp [e2]
  have at_ : ∀ (i : Nat) (v : Value), (ps.map Value.ref).toArray[i]? = some v → ∃ b, ps[i]? = some b ∧ v = .ref b := by
    intro i v e
    have e' : (ps.map Value.ref)[i]? = some v := by simpa using e
    rw [List.getElem?_map] at e'
    cases hb : ps[i]? with
    | none =>
      rw [hb] at e'
      cases e'
    | some b =>
      rw [hb] at e'
      exact ⟨b, rfl, (Option.some.inj e').symm⟩
  have tup : ∀ (i : Nat) (b : Addr), ps[i]? = some b → ∃ t, L[i]? = some t ∧ t ∈ L ∧ H b = some (.tup (t.map V.int)) := by
    intro i b hb
    have li := (List.getElem?_eq_some_iff.mp hb).1
    have el : L[i]? = some L[i] := List.getElem?_eq_getElem (by omega)
    exact ⟨_, el, List.mem_of_getElem? el, e3 i b _ hb el⟩
  have gd : ∀ (i : Nat) (t : List Int), L[i]? = some t → L.getD i [] = t := fun i t e => by rw [List.getD_eq_getElem?_getD, e]; rfl
  refine TM.min_list (bt := fun i j => decide (TS.code 4 (L.getD i []) < TS.code 4 (L.getD j []))) (I.ok.hd hc) hl.isList (by omega) ?_ ?_
  · intro i j vi vj s' Q' E' old hi hj hq
    obtain ⟨b, hb, rfl⟩ := at_ i vi hi
    obtain ⟨b', hb', rfl⟩ := at_ j vj hj
    obtain ⟨ns, en, mn, tn⟩ := tup i b hb
    obtain ⟨ms, em, mm, tm⟩ := tup j b' hb'
    dsimp only at hq
    rw [gd i ns en, gd j ms em] at hq
    obtain ⟨xs, r1, p1, _⟩ := I.tuple (SqT.of tn)
    obtain ⟨ys, r2, p2, _⟩ := I.tuple (SqT.of tm)
    have P1 : s'.heap.IsTuple b xs.toArray := by
      obtain ⟨o, ho, x⟩ := p1
      exact ⟨o, old _ _ ho, x⟩
    have P2 : s'.heap.IsTuple b' ys.toArray := by
      obtain ⟨o, ho, x⟩ := p2
      exact ⟨o, old _ _ ho, x⟩
    have i1 : IntsAre xs ns := Vals.ints r1
    have i2 : IntsAre ys ms := Vals.ints r2
    have s1 : xs.toArray.size = ns.length := by rw [List.size_toArray]; exact i1.length
    have s2 : ys.toArray.size = ms.length := by rw [List.size_toArray]; exact i2.length
    have at1 : ∀ k (h1 : k < xs.toArray.size), ∃ t, xs.toArray[k] = .int (ns.getD k 0) t := fun k h1 => PyProof.Rows.IntsAre.int_at i1 _ _ (by simp at h1; simp [h1])
    have at2 : ∀ k (h1 : k < ys.toArray.size), ∃ t, ys.toArray[k] = .int (ms.getD k 0) t := fun k h1 => PyProof.Rows.IntsAre.int_at i2 _ _ (by simp at h1; simp [h1])
    have Rc := Ob.RcOp.tuples_lt (A := X.A.in1) (s := s') (e := fun k => decide (ns.getD k 0 = ms.getD k 0)) (r := fun k => decide (ns.getD k 0 < ms.getD k 0)) P1 P2 (by show X.A.units + 1 < cLine; omega) (fun k h1 h2 => by
      obtain ⟨t, et⟩ := at1 k h1
      obtain ⟨t', et'⟩ := at2 k h2
      rw [et, et']
      have z : (ns.getD k 0 == ms.getD k 0) = decide (ns.getD k 0 = ms.getD k 0) := by
        by_cases c : ns.getD k 0 = ms.getD k 0
        · rw [decide_eq_true c]
          exact beq_iff_eq.mpr c
        · rw [decide_eq_false c]
          exact beq_eq_false_iff_ne.mpr c
      rw [← z]
      exact SeqAt.EqAt.int_int _ _ _ _) (fun k h1 h2 _ => by
      obtain ⟨t, et⟩ := at1 k h1
      obtain ⟨t', et'⟩ := at2 k h2
      rw [et, et']
      exact Ob.RcOp.lt_int _ _ _ _)
    rw [s1, s2, lex3 (hB ns mn).1 (hB ms mm).1 (hB ns mn).2 (hB ms mm).2] at Rc
    exact Rc X.prog X.w E' Q' hq
  · intro v h' tk hv old
    obtain ⟨b, hb, rfl⟩ := at_ _ v hv
    obtain ⟨t, et, mt, ht⟩ := tup _ b hb
    obtain ⟨h1, h2⟩ := argBest_lt (fun i => TS.code 4 (L.getD i [])) ((ps.map Value.ref).toArray.size - 1)
    refine ⟨.ref b, H, I.kept old, rfl, q b t mt (fun u hu => ?_) ht⟩
    obtain ⟨j, hj⟩ := List.mem_iff_getElem?.mp hu
    have lj := (List.getElem?_eq_some_iff.mp hj).1
    have z := h2 j (by omega)
    rw [gd _ t et, gd j u hj] at z
    exact z
end
end L2
namespace J
open PySem PySem.Spec PyProof.Rows L2
/-! ### the law's own readings and classes -/
abbrev s_Lreadings : Stmt := top 43
theorem sc_Lreadings : FnScope ["_law_backs_here", "_law_p", "_law_q", "_law_r"] ["_law_backs_here", "_law_p", "_law_q", "_law_r"] (defScope s_Lreadings) := ⟨rfl, rfl, rfl, by decide +kernel, rfl, by decide +kernel, by decide +kernel⟩
def spLR : Sp := fun vs H Q _ => ∃ (b : Addr) (ns : List Int) (p q r : Nat), vs = [.ref b, .int p, .int q, .int r] ∧ H b = some (.lst (ns.map V.int)) ∧ GoodB ns ∧ p < ns.length ∧ q < ns.length ∧ r < ns.length ∧ ∀ (H' : Hp) (z : Addr), Same H H' → H z = none → LstsAt H' z (six ns p q r) → Q (.ref z) H'
theorem bk_at {ns : List Int} {p : Nat} (h : p < ns.length) : (ns.map V.int)[p]? = some (.int (bk ns p)) := by
  have := bk_get (ns := ns) (t := (p : Int)) ⟨by omega, by omega⟩
  rw [Int.toNat_natCast] at this
  rw [List.getElem?_map, this]
  rfl
section
variable {P : Program} {w : World} {K : PySem.W.Frag} {mg : Str → Option Value} {base : Heap}
theorem ok_Lreadings {f : Addr} {fd : FuncData} (F : Fun K "_law_readings" "_law_readings" s_Lreadings f fd) : FnOk P w K mg base CX0 1 f fd ["_law_backs_here", "_law_p", "_law_q", "_law_r"] spLR := by
  refine F.ok sc_Lreadings (fun vs H Q E h => ?_) (fun cdv A outer s H vs Q E hr h => ?_)
  · obtain ⟨b, ns, p, q, r, rfl, _⟩ := h
    rfl
  · obtain ⟨b, ns, p, q, r, rfl, hb, gb, lp, lq, lr, k⟩ := h
    refine ⟨_, (pss_one 
  (ps_ret (pe_lst (pa_cons (pe_tup (pa_cons (pv 1) (pa_cons (pv 2) (pa_cons (pv 3) pa_nil)))) (pa_cons (pe_tup (pa_cons (pv 3) (pa_cons (pe_ix ix_list (pv 0) (pv 2) (fun _ _ => rfl)) (pa_cons (pv 1) pa_nil)))) (pa_cons (pe_tup (pa_cons (pe_ix ix_list (pv 0) (pv 1) (fun _ _ => rfl)) (pa_cons (pv 3) (pa_cons (pv 2) pa_nil)))) (pa_cons (pe_tup (pa_cons (pv 2) (pa_cons (pe_ix ix_list (pv 0) (pv 3) (fun _ _ => rfl)) (pa_cons (pe_ix ix_list (pv 0) (pv 1) (fun _ _ => rfl)) pa_nil)))) (pa_cons (pe_tup (pa_cons (pe_ix ix_list (pv 0) (pv 3) (fun _ _ => rfl)) (pa_cons (pv 1) (pa_cons (pe_ix ix_list (pv 0) (pv 2) (fun _ _ => rfl)) pa_nil)))) (pa_cons (pe_tup (pa_cons (pe_ix ix_list (pv 0) (pv 2) (fun _ _ => rfl)) (pa_cons (pe_ix ix_list (pv 0) (pv 1) (fun _ _ => rfl)) (pa_cons (pe_ix ix_list (pv 0) (pv 3) (fun _ _ => rfl)) pa_nil)))) pa_nil))))))))), ?_⟩
    have S0 : Same H H := Same.refl H
    refine ⟨_, rfl, _, rfl, _, rfl, (by show 3 ≤ sizeLine; decide), fun t1 ht1 => ?_⟩
    have W1 : Same H (upd H t1 (.tup [V.int ((p : Int)), V.int ((q : Int)), V.int ((r : Int))])) := new_same ht1
    have f1 : (upd H t1 (.tup [V.int ((p : Int)), V.int ((q : Int)), V.int ((r : Int))])) t1 = some (.tup (([(p : Int), (q : Int), (r : Int)] : List Int).map V.int)) := upd_same
    have S1 := S0.trans W1
    generalize upd H t1 (.tup [V.int ((p : Int)), V.int ((q : Int)), V.int ((r : Int))]) = K1 at W1 f1 S1
    refine ⟨_, rfl, _, rfl, _, rfl, _, _, _, _, rfl, rfl, SqL.of (S1 _ _ hb), at_of (j := q) (v := .int _) rfl (bk_at lq), _, rfl, (by show 3 ≤ sizeLine; decide), fun t2 ht2 => ?_⟩
    have W2 : Same K1 (upd K1 t2 (.tup [V.int ((r : Int)), V.int (bk ns (q : Nat)), V.int ((p : Int))])) := new_same ht2
    have f2 : (upd K1 t2 (.tup [V.int ((r : Int)), V.int (bk ns (q : Nat)), V.int ((p : Int))])) t2 = some (.tup (([(r : Int), bk ns (q : Nat), (p : Int)] : List Int).map V.int)) := upd_same
    have S2 := S1.trans W2
    generalize upd K1 t2 (.tup [V.int ((r : Int)), V.int (bk ns (q : Nat)), V.int ((p : Int))]) = K2 at W2 f2 S2
    refine ⟨_, rfl, _, rfl, _, _, _, _, rfl, rfl, SqL.of (S2 _ _ hb), at_of (j := p) (v := .int _) rfl (bk_at lp), _, rfl, _, rfl, (by show 3 ≤ sizeLine; decide), fun t3 ht3 => ?_⟩
    have W3 : Same K2 (upd K2 t3 (.tup [V.int (bk ns (p : Nat)), V.int ((r : Int)), V.int ((q : Int))])) := new_same ht3
    have f3 : (upd K2 t3 (.tup [V.int (bk ns (p : Nat)), V.int ((r : Int)), V.int ((q : Int))])) t3 = some (.tup (([bk ns (p : Nat), (r : Int), (q : Int)] : List Int).map V.int)) := upd_same
    have S3 := S2.trans W3
    generalize upd K2 t3 (.tup [V.int (bk ns (p : Nat)), V.int ((r : Int)), V.int ((q : Int))]) = K3 at W3 f3 S3
    refine ⟨_, rfl, _, rfl, _, rfl, _, _, _, _, rfl, rfl, SqL.of (S3 _ _ hb), at_of (j := r) (v := .int _) rfl (bk_at lr), _, rfl, _, rfl, _, _, _, _, rfl, rfl, SqL.of (S3 _ _ hb), at_of (j := p) (v := .int _) rfl (bk_at lp), (by show 3 ≤ sizeLine; decide), fun t4 ht4 => ?_⟩
    have W4 : Same K3 (upd K3 t4 (.tup [V.int ((q : Int)), V.int (bk ns (r : Nat)), V.int (bk ns (p : Nat))])) := new_same ht4
    have f4 : (upd K3 t4 (.tup [V.int ((q : Int)), V.int (bk ns (r : Nat)), V.int (bk ns (p : Nat))])) t4 = some (.tup (([(q : Int), bk ns (r : Nat), bk ns (p : Nat)] : List Int).map V.int)) := upd_same
    have S4 := S3.trans W4
    generalize upd K3 t4 (.tup [V.int ((q : Int)), V.int (bk ns (r : Nat)), V.int (bk ns (p : Nat))]) = K4 at W4 f4 S4
    refine ⟨_, rfl, _, rfl, _, _, _, _, rfl, rfl, SqL.of (S4 _ _ hb), at_of (j := r) (v := .int _) rfl (bk_at lr), _, rfl, _, rfl, _, rfl, _, _, _, _, rfl, rfl, SqL.of (S4 _ _ hb), at_of (j := q) (v := .int _) rfl (bk_at lq), (by show 3 ≤ sizeLine; decide), fun t5 ht5 => ?_⟩
    have W5 : Same K4 (upd K4 t5 (.tup [V.int (bk ns (r : Nat)), V.int ((p : Int)), V.int (bk ns (q : Nat))])) := new_same ht5
    have f5 : (upd K4 t5 (.tup [V.int (bk ns (r : Nat)), V.int ((p : Int)), V.int (bk ns (q : Nat))])) t5 = some (.tup (([bk ns (r : Nat), (p : Int), bk ns (q : Nat)] : List Int).map V.int)) := upd_same
    have S5 := S4.trans W5
    generalize upd K4 t5 (.tup [V.int (bk ns (r : Nat)), V.int ((p : Int)), V.int (bk ns (q : Nat))]) = K5 at W5 f5 S5
    refine ⟨_, rfl, _, rfl, _, _, _, _, rfl, rfl, SqL.of (S5 _ _ hb), at_of (j := q) (v := .int _) rfl (bk_at lq), _, rfl, _, rfl, _, _, _, _, rfl, rfl, SqL.of (S5 _ _ hb), at_of (j := p) (v := .int _) rfl (bk_at lp), _, rfl, _, rfl, _, _, _, _, rfl, rfl, SqL.of (S5 _ _ hb), at_of (j := r) (v := .int _) rfl (bk_at lr), (by show 3 ≤ sizeLine; decide), fun t6 ht6 => ?_⟩
    have W6 : Same K5 (upd K5 t6 (.tup [V.int (bk ns (q : Nat)), V.int (bk ns (p : Nat)), V.int (bk ns (r : Nat))])) := new_same ht6
    have f6 : (upd K5 t6 (.tup [V.int (bk ns (q : Nat)), V.int (bk ns (p : Nat)), V.int (bk ns (r : Nat))])) t6 = some (.tup (([bk ns (q : Nat), bk ns (p : Nat), bk ns (r : Nat)] : List Int).map V.int)) := upd_same
    have S6 := S5.trans W6
    generalize upd K5 t6 (.tup [V.int (bk ns (q : Nat)), V.int (bk ns (p : Nat)), V.int (bk ns (r : Nat))]) = K6 at W6 f6 S6
    refine ⟨(by show 6 ≤ sizeLine; decide), fun l hl => ?_⟩
    have W7 : Same K6 (upd K6 l (.lst [.ref t1, .ref t2, .ref t3, .ref t4, .ref t5, .ref t6])) := new_same hl
    have hl0 : H l = none := same_free S6 hl
    have V6 := W7
    have V5 := W6.trans V6
    have V4 := W5.trans V5
    have V3 := W4.trans V4
    have V2 := W3.trans V3
    have V1 := W2.trans V2
    refine k _ l (S6.trans W7) hl0 ⟨[t1, t2, t3, t4, t5, t6], upd_same, rfl, fun j a ts q1 q2 => ?_⟩
    match j, q1, q2 with
    | 0, q1, q2 =>
      obtain rfl : t1 = a := Option.some.inj q1
      obtain rfl : ([(p : Int), (q : Int), (r : Int)] : List Int) = ts := Option.some.inj q2
      exact V1 _ _ f1
    | 1, q1, q2 =>
      obtain rfl : t2 = a := Option.some.inj q1
      obtain rfl : ([(r : Int), bk ns (q : Nat), (p : Int)] : List Int) = ts := Option.some.inj q2
      exact V2 _ _ f2
    | 2, q1, q2 =>
      obtain rfl : t3 = a := Option.some.inj q1
      obtain rfl : ([bk ns (p : Nat), (r : Int), (q : Int)] : List Int) = ts := Option.some.inj q2
      exact V3 _ _ f3
    | 3, q1, q2 =>
      obtain rfl : t4 = a := Option.some.inj q1
      obtain rfl : ([(q : Int), bk ns (r : Nat), bk ns (p : Nat)] : List Int) = ts := Option.some.inj q2
      exact V4 _ _ f4
    | 4, q1, q2 =>
      obtain rfl : t5 = a := Option.some.inj q1
      obtain rfl : ([bk ns (r : Nat), (p : Int), bk ns (q : Nat)] : List Int) = ts := Option.some.inj q2
      exact V5 _ _ f5
    | 5, q1, q2 =>
      obtain rfl : t6 = a := Option.some.inj q1
      obtain rfl : ([bk ns (q : Nat), bk ns (p : Nat), bk ns (r : Nat)] : List Int) = ts := Option.some.inj q2
      exact V6 _ _ f6
    | j + 6, q1, q2 => simp at q1
end
end J

set_option Elab.async false
set_option linter.all false
set_option maxRecDepth 100000
set_option maxHeartbeats 8000000
namespace J
open PySem PySem.Spec PyProof.Rows L2
theorem min_isL {ns : List Int} {p q r : Int} {t : List Int} (g : GoodB ns) (ip : InT ns p) (iq : InT ns q) (ir : InT ns r) (ht : t ∈ six ns p q r) (hm : ∀ u ∈ six ns p q r, TS.code 4 t ≤ TS.code 4 u) : decide (t = [p, q, r]) = isL ns [p, q, r] := by
  show _ = (six ns p q r).all fun x => decide (TS.code 4 [p, q, r] ≤ TS.code 4 x)
  have me : [p, q, r] ∈ six ns p q r := by simp [six]
  by_cases h : t = [p, q, r]
  · rw [decide_eq_true h, eq_comm, List.all_eq_true]
    exact fun x hx => decide_eq_true (by rw [← h]; exact hm x hx)
  · rw [decide_eq_false h, eq_comm, List.all_eq_false]
    refine ⟨t, ht, fun z => h ?_⟩
    have z := of_decide_eq_true z
    have z2 := hm _ me
    obtain ⟨l1, b1⟩ := six_bd g ip iq ir t ht
    obtain ⟨l2, b2⟩ := six_bd g ip iq ir _ me
    exact code_inj (by omega) b1 b2 (by omega)
abbrev s_Lclasses : Stmt := top 44
theorem sc_Lclasses : FnScope ["_law_backs_here", "_law_many", "_law_found", "_law_p", "_law_q", "_law_r"] ["_law_backs_here"] (defScope s_Lclasses) := ⟨rfl, rfl, rfl, by decide +kernel, rfl, by decide +kernel, by decide +kernel⟩
def spLC : Sp := fun vs H Q _ => ∃ (b : Addr) (ns : List Int), vs = [.ref b] ∧ H b = some (.lst (ns.map V.int)) ∧ GoodB ns ∧ ∀ (H' : Hp) (z : Addr), Same H H' → H z = none → LstsAt H' z ((A3 ns.length ns.length).filter (isL ns)) → Q (.ref z) H'
section
variable {P : Program} {w : World} {K : PySem.W.Frag} {mg : Str → Option Value} {base : Heap}
theorem ok_Lclasses {f fR : Addr} {fd fdR : FuncData} (F : Fun K "_law_classes" "_law_classes" s_Lclasses f fd) (nl : mg "len" = none) (nr : mg "range" = none) (nm : mg "min" = none)
    (GR : Cal P w K mg base CX0 1 "_law_readings" fR fdR ["_law_backs_here", "_law_p", "_law_q", "_law_r"] spLR) : FnOk P w K mg base CX0 2 f fd ["_law_backs_here"] spLC := by
  refine F.ok sc_Lclasses (fun vs H Q E h => ?_) (fun cdv A outer s H vs Q E hr h => ?_)
  · obtain ⟨b, ns, rfl, _⟩ := h
    rfl
  · obtain ⟨b, ns, rfl, hb, gb, k⟩ := h
    have h4 := gb.hi
    refine ⟨_, (pss_cons 
  (ps_set (i := 1) sc_Lclasses.nd rfl (Or.inl rfl) (pe_callB call_len_seq (by rfl) nl PySem.boot_len (pa_cons (pv 0) pa_nil))) (pss_cons 
  (ps_set (i := 2) sc_Lclasses.nd rfl (Or.inl rfl) (pe_lst pa_nil)) (pss_cons 
  (ps_for PassesOwn.never rfl (pi_range1 (by rfl) nr (pa_cons (pv 1) pa_nil)) (pg_name (i := 3) sc_Lclasses.nd rfl (Or.inl rfl)) (pss_one 
    (ps_for PassesOwn.never rfl (pi_range1 (by rfl) nr (pa_cons (pv 1) pa_nil)) (pg_name (i := 4) sc_Lclasses.nd rfl (Or.inl rfl)) (pss_one 
      (ps_for PassesOwn.never rfl (pi_range1 (by rfl) nr (pa_cons (pv 1) pa_nil)) (pg_name (i := 5) sc_Lclasses.nd rfl (Or.inl rfl)) (pss_one 
        (ps_if (pt_cmpR (r := rEqD K) (op_eqD hr.units) (pe_callB (r := rMinT) (cr_minT rfl hr.units) (by rfl) nm (by decide +kernel) (pa_cons (pcal GR hr pass0 (pa_cons (pv 0) (pa_cons (pv 3) (pa_cons (pv 4) (pa_cons (pv 5) pa_nil))))) pa_nil)) (pe_tup (pa_cons (pv 3) (pa_cons (pv 4) (pa_cons (pv 5) pa_nil)))) (nomark _)) (pss_one 
          (ps_expr (pe_bm PySem.F.plainAttrs_list PySem.F.slot_list_append PySem.F.type_list_append mt_append (pv 2) (pa_cons (pe_tup (pa_cons (pv 3) (pa_cons (pv 4) (pa_cons (pv 5) pa_nil)))) pa_nil)))) pss_nil))))))) (pss_one 
  (ps_ret (pv 2)))))), ?_⟩
    have lm : (ns.map V.int).length = ns.length := List.length_map _
    refine ⟨_, rfl, b, _, rfl, .inl (SqL.of hb), ?_⟩
    rw [lm]
    refine ⟨(by show 0 ≤ sizeLine; decide), fun D hD => ?_⟩
    refine ⟨_, rfl, (ns.length : Nat), rfl, by omega, by omega, for_range (lo := 0) (n := ns.length) (fun i σ H' => ∃ v3 v4 v5 : Option V, σ = [some (.ref b), some (.int (ns.length : Nat)), some (.ref D), v3, v4, v5] ∧ Gro H H' D ((A3 ns.length i).filter (isL ns)))
      ⟨none, none, none, rfl, Gro.nil hD⟩ ?_ ?_⟩
    · rintro i σ H2 hi ⟨v3, v4, v5, rfl, G2⟩
      refine ⟨_, rfl, (ns.length : Nat), rfl, by omega, by omega, for_range (lo := 0) (n := ns.length) (fun j σ H' => ∃ v4 v5 : Option V, σ = [some (.ref b), some (.int (ns.length : Nat)), some (.ref D), some (.int (0 + (i : Nat))), v4, v5] ∧ Gro H H' D ((A3 ns.length i ++ A2 ns.length i j).filter (isL ns)))
        ⟨_, _, rfl, by unfold A2; simpa using G2⟩ ?_ ?_⟩
      · rintro j σ H3 hj ⟨v4, v5, rfl, G3⟩
        refine ⟨_, rfl, (ns.length : Nat), rfl, by omega, by omega, for_range (lo := 0) (n := ns.length) (fun l σ H' => ∃ v5 : Option V, σ = [some (.ref b), some (.int (ns.length : Nat)), some (.ref D), some (.int (0 + (i : Nat))), some (.int (0 + (j : Nat))), v5] ∧ Gro H H' D ((A3 ns.length i ++ A2 ns.length i j ++ A1 i j l).filter (isL ns)))
          ⟨_, rfl, by unfold A1; simpa using G3⟩ ?_ ?_⟩
        · rintro l σ H4 hl ⟨v5, rfl, G4⟩
          have ln := A_len ns.length h4 i hi j hj l hl
          have ip : InT ns (i : Int) := ⟨by omega, by omega⟩
          have iq : InT ns (j : Int) := ⟨by omega, by omega⟩
          have ir : InT ns (l : Int) := ⟨by omega, by omega⟩
          have nxt : (A3 ns.length i ++ A2 ns.length i j ++ A1 i j (l + 1)).filter (isL ns) = (A3 ns.length i ++ A2 ns.length i j ++ A1 i j l).filter (isL ns) ++ (if isL ns [(i : Int), (j : Int), (l : Int)] = true then [[(i : Int), (j : Int), (l : Int)]] else []) := by
            rw [A1_succ, ← List.append_assoc, List.filter_append]
            by_cases c : isL ns [(i : Int), (j : Int), (l : Int)] = true
            · rw [if_pos c, List.filter_cons_of_pos c]
              rfl
            · rw [if_neg c, List.filter_cons_of_neg c]
              rfl
          refine ⟨_, rfl, _, rfl, _, rfl, _, rfl, b, ns, i, j, l, (by simp), G4.S _ _ hb, gb, hi, hj, hl, fun H5 z S5 nz Lz => ?_⟩
          refine ⟨z, _, rfl, Lz, (by show 0 < 6; decide), fun t ht => six_bd gb ip iq ir t ht, fun zt t mt hmin et => ?_⟩
          refine ⟨_, rfl, _, rfl, _, rfl, (by show 3 ≤ sizeLine; decide), fun y hy => ?_⟩
          have e3 : ([(i : Int), (j : Int), (l : Int)].map V.int) = [V.int (0 + (i : Nat)), V.int (0 + (j : Nat)), V.int (0 + (l : Nat))] := by simp
          have S6 : Same H5 (upd H5 y (.tup [V.int (0 + (i : Nat)), V.int (0 + (j : Nat)), V.int (0 + (l : Nat))])) := new_same hy
          have ey : (upd H5 y (.tup [V.int (0 + (i : Nat)), V.int (0 + (j : Nat)), V.int (0 + (l : Nat))])) y = some (.tup ([(i : Int), (j : Int), (l : Int)].map V.int)) := by rw [upd_same, e3]
          generalize upd H5 y (.tup [V.int (0 + (i : Nat)), V.int (0 + (j : Nat)), V.int (0 + (l : Nat))]) = H6 at S6 ey
          have G6 := G4.keep (S5.trans S6)
          refine ⟨_, _, .tup (SqT.of (S6 _ _ et)) (dp_ints _), .tup (SqT.of ey) (dp_ints _), shaped_ti _, shaped_ti _, _, rfl, ?_⟩
          rw [eqv_ti, min_isL gb ip iq ir mt hmin]
          cases hc : isL ns [(i : Int), (j : Int), (l : Int)] with
          | true =>
            obtain ⟨ps, d1, d2, d3⟩ := id G6.d
            refine iteT ⟨_, rfl, .inl ⟨rfl, _, SqL.of d1⟩, _, rfl, _, rfl, _, rfl, (by show 3 ≤ sizeLine; decide), fun u hu => ?_⟩
            obtain ⟨acc, q1, q2, q3⟩ := G6.snoc (ts := [(i : Int), (j : Int), (l : Int)]) hu
            rw [e3] at q1 q3
            have fl := List.length_filter_le (isL ns) (A3 ns.length i ++ A2 ns.length i j ++ A1 i j l)
            refine ⟨D, _, _, rfl, rfl, q1, small1000 (by omega), _, rfl, ?_⟩
            rw [nxt, if_pos hc]
            exact q3
          | false =>
            refine iteF ⟨_, rfl, ?_⟩
            rw [nxt, if_neg (by rw [hc]; decide), List.append_nil]
            exact G6
        · rintro σ H4 ⟨v5, rfl, G4⟩
          refine ⟨_, _, rfl, ?_⟩
          rw [A2_succ, ← List.append_assoc]
          exact G4
      · rintro σ H3 ⟨v4, v5, rfl, G3⟩
        refine ⟨_, _, _, rfl, ?_⟩
        rw [A3_succ]
        exact G3
    · rintro σ H2 ⟨v3, v4, v5, rfl, G2⟩
      exact ⟨_, rfl, k _ D G2.S hD G2.lsts⟩
end
end J

set_option Elab.async false
set_option linter.all false
set_option maxRecDepth 100000
set_option maxHeartbeats 8000000
namespace J
open PySem PySem.Spec PyProof.Rows L2
/-! ### the law's world: a table three deep, changed in place -/
def rIxS (K : PySem.W.Frag) : V → V → Hp → VK → Prop := fun x y H Q => rIxL K x y H Q ∨ rIxT K x y H Q
theorem ix_seq {X : Cx} : IxR X (rIxS X.K) := by
  intro e1 e2 pins s σ H x y v u Q I rx ry h hs
  rcases h with h | h
  · exact ix_list e1 e2 pins s σ H x y v u Q I rx ry h hs
  · exact ix_tup e1 e2 pins s σ H x y v u Q I rx ry h hs
abbrev boolsL (n : Nat) (g : Nat → Bool) : List V := (List.range n).map fun r => V.bl (g r)
abbrev refsL (n : Nat) (g : Nat → Addr) : List V := (List.range n).map fun r => V.ref (g r)
structure W3 (H0 H : Hp) (z : Addr) (n : Nat) (po : Nat → Addr) (ro : Nat → Nat → Addr) (f : Nat → Nat → Nat → Bool) : Prop where
  S : Same H0 H
  fz : H0 z = none
  o : H z = some (.lst (refsL n po))
  m : ∀ p, p < n → H (po p) = some (.lst (refsL n (ro p)))
  r : ∀ p q, p < n → q < n → H (ro p q) = some (.lst (boolsL n (f p q)))
  inj : ∀ p q p' q', p < n → q < n → p' < n → q' < n → ro p q = ro p' q' → p = p' ∧ q = q'
  fr : ∀ p q, p < n → q < n → H0 (ro p q) = none
theorem W3.keep {H0 H H' : Hp} {z : Addr} {n : Nat} {po : Nat → Addr} {ro : Nat → Nat → Addr} {f : Nat → Nat → Nat → Bool} (w : W3 H0 H z n po ro f) (S : Same H H') : W3 H0 H' z n po ro f :=
  ⟨w.S.trans S, w.fz, S _ _ w.o, fun p hp => S _ _ (w.m p hp), fun p q hp hq => S _ _ (w.r p q hp hq), w.inj, w.fr⟩
theorem W3.congr {H0 H : Hp} {z : Addr} {n : Nat} {po : Nat → Addr} {ro : Nat → Nat → Addr} {f g : Nat → Nat → Nat → Bool} (w : W3 H0 H z n po ro f) (h : ∀ p q r, p < n → q < n → r < n → f p q r = g p q r) : W3 H0 H z n po ro g :=
  ⟨w.S, w.fz, w.o, w.m, fun p q hp hq => by
    rw [w.r p q hp hq]
    congr 2
    exact List.map_congr_left fun r hr => by rw [h p q r hp hq (List.mem_range.mp hr)], w.inj, w.fr⟩
theorem refs_at {n : Nat} {g : Nat → Addr} {k : Nat} (h : k < n) : (refsL n g)[k]? = some (.ref (g k)) := by
  rw [List.getElem?_map, List.getElem?_range h]
  rfl
theorem bools_at {n : Nat} {g : Nat → Bool} {k : Nat} (h : k < n) : (boolsL n g)[k]? = some (.bl (g k)) := by
  rw [List.getElem?_map, List.getElem?_range h]
  rfl
theorem bools_set {n : Nat} {g : Nat → Bool} {c : Nat} : (boolsL n g).set c (.bl false) = boolsL n (fun r => g r && !decide (r = c)) := by
  apply List.ext_getElem?
  intro k
  rw [List.getElem?_set]
  by_cases hk : k < n
  · rw [bools_at hk, bools_at hk]
    by_cases e : c = k
    · rw [if_pos e, if_pos (by rw [List.length_map, List.length_range]; omega)]
      simp [e]
    · rw [if_neg e]
      have : ¬ k = c := fun z => e z.symm
      simp [this]
  · have h1 : (boolsL n g)[k]? = none := List.getElem?_eq_none (by rw [List.length_map, List.length_range]; omega)
    have h2 : (boolsL n fun r => g r && !decide (r = c))[k]? = none := List.getElem?_eq_none (by rw [List.length_map, List.length_range]; omega)
    rw [h1, h2]
    by_cases e : c = k
    · rw [if_pos e, if_neg (by rw [List.length_map, List.length_range]; omega)]
    · rw [if_neg e]
theorem refs_ne {n : Nat} {g : Nat → Addr} {h : Nat → Bool} (hn : 0 < n) : (refsL n g) ≠ boolsL n h := fun e => by
  have e1 := congrArg (fun l : List V => l[0]?) e
  simp only [refs_at hn, bools_at hn] at e1
  injection e1 with e1
  cases e1
theorem W3.set {H0 H : Hp} {z : Addr} {n : Nat} {po : Nat → Addr} {ro : Nat → Nat → Addr} {f : Nat → Nat → Nat → Bool} {a b c : Nat} (w : W3 H0 H z n po ro f) (ha : a < n) (hb : b < n) :
    W3 H0 (upd H (ro a b) (.lst ((boolsL n (f a b)).set c (.bl false)))) z n po ro (fun p q r => f p q r && !decide (p = a ∧ q = b ∧ r = c)) := by
  have hn : 0 < n := by omega
  have er := w.r a b ha hb
  refine ⟨fun y o e => ?_, w.fz, ?_, fun p hp => ?_, fun p q hp hq => ?_, w.inj, w.fr⟩
  · rw [upd_ne (fun q => by rw [q, w.fr a b ha hb] at e; cases e)]
    exact w.S _ _ e
  · rw [upd_ne (fun q => by rw [← q, w.o] at er; injection er with er; injection er with er; exact refs_ne hn er)]
    exact w.o
  · rw [upd_ne (fun q => by rw [← q, w.m p hp] at er; injection er with er; injection er with er; exact refs_ne hn er)]
    exact w.m p hp
  · by_cases e : p = a ∧ q = b
    · obtain ⟨rfl, rfl⟩ := e
      rw [upd_same, bools_set]
      congr 2
      exact List.map_congr_left fun r _ => by simp
    · rw [upd_ne (fun z => e (w.inj p q a b hp hq ha hb z)), w.r p q hp hq]
      congr 2
      refine List.map_congr_left fun r _ => ?_
      have : ¬ (p = a ∧ q = b ∧ r = c) := fun z => e ⟨z.1, z.2.1⟩
      simp [this]
/-- what is let where L is barred -/
def fB (L : List (List Int)) (p q r : Nat) : Bool := !decide ([(p : Int), (q : Int), (r : Int)] ∈ L)
abbrev s_Llet : Stmt := top 45
theorem sc_Llet : FnScope ["_law_backs_here", "_law_classes_here", "_law_many", "_law_let_here", "_law_three", "_law_reading", "_law_row", "_law_p", "_law_q", "_law_r"] ["_law_backs_here", "_law_classes_here"] (defScope s_Llet) := ⟨rfl, rfl, rfl, by decide +kernel, rfl, by decide +kernel, by decide +kernel⟩
def spLL : Sp := fun vs H Q _ => ∃ (b c : Addr) (ns : List Int) (xs : List V) (ts : List (List Int)), vs = [.ref b, .ref c] ∧ H b = some (.lst (ns.map V.int)) ∧ GoodB ns ∧ H c = some (.lst xs) ∧ ThrAt H xs ts ∧ (∀ t ∈ ts, t ∈ A3 ns.length ns.length) ∧
  ∀ (H' : Hp) (z : Addr) (po : Nat → Addr) (ro : Nat → Nat → Addr), W3 H H' z ns.length po ro (fB (brd ns ts)) → Q (.ref z) H'
/-- rows while they are put one behind another -/
structure GroF (H1 H : Hp) (D : Addr) (i : Nat) (adr : Nat → Addr) (R : Hp → Nat → Addr → Prop) : Prop where
  S : Same H1 H
  f : H1 D = none
  d : H D = some (.lst (refsL i adr))
  r : ∀ k, k < i → R H k (adr k)
  fr : ∀ k, k < i → H1 (adr k) = none
  ne : ∀ k, k < i → adr k ≠ D
  inj : ∀ k k', k < i → k' < i → adr k = adr k' → k = k'
theorem GroF.nil {H1 : Hp} {D : Addr} {R : Hp → Nat → Addr → Prop} {adr : Nat → Addr} (hD : H1 D = none) : GroF H1 (upd H1 D (.lst [])) D 0 adr R :=
  ⟨new_same hD, hD, upd_same, fun k h => absurd h (Nat.not_lt_zero k), fun k h => absurd h (Nat.not_lt_zero k), fun k h => absurd h (Nat.not_lt_zero k), fun k k' h => absurd h (Nat.not_lt_zero k)⟩
/-- H: before the new thing was made, H': behind it -/
theorem GroF.app {H1 H H' : Hp} {D y : Addr} {i : Nat} {adr : Nat → Addr} {R : Hp → Nat → Addr → Prop} (G : GroF H1 H D i adr R) (S : Same H H') (hy : H y = none) (hR : R (upd H' D (.lst (refsL i adr ++ [.ref y]))) i y)
    (m : ∀ k a, k < i → R H k a → R (upd H' D (.lst (refsL i adr ++ [.ref y]))) k a) (hl : ∀ k, k < i → H (adr k) ≠ none) : ∃ adr', GroF H1 (upd H' D (.lst (refsL i adr ++ [.ref y]))) D (i + 1) adr' R ∧ (∀ k, k < i → adr' k = adr k) ∧ adr' i = y := by
  refine ⟨fun k => if k = i then y else adr k, ⟨fun b o e => ?_, G.f, ?_, fun k hk => ?_, fun k hk => ?_, fun k hk => ?_, fun k k' hk hk' e => ?_⟩, fun k hk => if_neg (by omega), if_pos rfl⟩
  · rw [upd_ne (ne_of_none e G.f)]
    exact S _ _ (G.S _ _ e)
  · rw [upd_same]
    congr 2
    show _ = List.map _ _
    rw [List.range_succ, List.map_append]
    congr 1
    · refine List.map_congr_left fun k hk => ?_
      have := List.mem_range.mp hk
      show V.ref (adr k) = V.ref (if k = i then y else adr k)
      rw [if_neg (by omega)]
    · simp
  · by_cases c : k = i
    · subst c
      rw [if_pos rfl]
      exact hR
    · rw [if_neg c]
      exact m k _ (by omega) (G.r k (by omega))
  · by_cases c : k = i
    · rw [if_pos c]
      exact same_free G.S hy
    · rw [if_neg c]
      exact G.fr k (by omega)
  · by_cases c : k = i
    · rw [if_pos c]
      exact (ne_of_none G.d hy).symm
    · rw [if_neg c]
      exact G.ne k (by omega)
  · by_cases c : k = i
    · by_cases c' : k' = i
      · omega
      · rw [if_pos c, if_neg c'] at e
        exact absurd hy (by rw [e]; exact hl k' (by omega))
    · by_cases c' : k' = i
      · rw [if_neg c, if_pos c'] at e
        exact absurd hy (by rw [← e]; exact hl k (by omega))
      · rw [if_neg c, if_neg c'] at e
        exact G.inj k k' (by omega) (by omega) e
/-- a row of rows -/
def RowsT (n : Nat) (H1 : Hp) (H : Hp) (a : Addr) (ro : Nat → Addr) : Prop := H a = some (.lst (refsL n ro)) ∧ (∀ q, q < n → H (ro q) = some (.lst (boolsL n fun _ => true))) ∧ (∀ q, q < n → H1 (ro q) = none) ∧ ∀ q q', q < n → q' < n → ro q = ro q' → q = q'
end J

set_option Elab.async false
set_option linter.all false
set_option maxRecDepth 100000
set_option maxHeartbeats 8000000
namespace J
open PySem PySem.Spec PyProof.Rows L2
theorem refs_ne2 {i n : Nat} {g : Nat → Addr} {h : Nat → Bool} (hi : 0 < i) : (refsL i g) ≠ boolsL n h := fun e => by
  have e1 := congrArg (fun l : List V => l[0]?) e
  simp only [refs_at hi] at e1
  by_cases c : 0 < n
  · rw [bools_at c] at e1
    injection e1 with e1
    cases e1
  · rw [List.getElem?_eq_none (by rw [List.length_map, List.length_range]; omega)] at e1
    cases e1
abbrev trueL (n : Nat) : List V := boolsL n fun _ => true
abbrev TrueR (n : Nat) : Hp → Nat → Addr → Prop := fun H _ a => H a = some (.lst (trueL n))
structure OutI (n : Nat) (H1 H : Hp) (D : Addr) (i : Nat) (po : Nat → Addr) (ro : Nat → Nat → Addr) : Prop where
  S : Same H1 H
  f : H1 D = none
  d : H D = some (.lst (refsL i po))
  m : ∀ p, p < i → H (po p) = some (.lst (refsL n (ro p)))
  r : ∀ p q, p < i → q < n → H (ro p q) = some (.lst (trueL n))
  fr : ∀ p q, p < i → q < n → H1 (ro p q) = none
  ne : ∀ p, p < i → po p ≠ D
  ner : ∀ p q, p < i → q < n → ro p q ≠ D
  inj : ∀ p q p' q', p < i → q < n → p' < i → q' < n → ro p q = ro p' q' → p = p' ∧ q = q'
theorem OutI.app {n : Nat} {H1 H2 H3 : Hp} {D D2 : Addr} {i : Nat} {po : Nat → Addr} {ro : Nat → Nat → Addr} {adr : Nat → Addr} (O : OutI n H1 H2 D i po ro) (G : GroF H2 H3 D2 n adr (TrueR n)) :
    OutI n H1 (upd H3 D (.lst (refsL i po ++ [.ref D2]))) D (i + 1) (fun p => if p = i then D2 else po p) (fun p => if p = i then adr else ro p) := by
  have nD : D2 ≠ D := (ne_of_none O.d G.f).symm
  have nA : ∀ q, q < n → adr q ≠ D := fun q hq => (ne_of_none O.d (G.fr q hq)).symm
  refine ⟨fun b o e => ?_, O.f, ?_, fun p hp => ?_, fun p q hp hq => ?_, fun p q hp hq => ?_, fun p hp => ?_, fun p q hp hq => ?_, fun p q p' q' hp hq hp' hq' e => ?_⟩
  · rw [upd_ne (ne_of_none e O.f)]
    exact G.S _ _ (O.S _ _ e)
  · rw [upd_same]
    congr 2
    show _ = List.map _ _
    rw [List.range_succ, List.map_append]
    congr 1
    · refine List.map_congr_left fun k hk => ?_
      have := List.mem_range.mp hk
      show V.ref (po k) = V.ref (if k = i then D2 else po k)
      rw [if_neg (by omega)]
    · simp
  · by_cases c : p = i
    · simp only [if_pos c]
      rw [upd_ne nD]
      exact G.d
    · simp only [if_neg c]
      rw [upd_ne (O.ne p (by omega))]
      exact G.S _ _ (O.m p (by omega))
  · by_cases c : p = i
    · simp only [if_pos c]
      rw [upd_ne (nA q hq)]
      exact G.r q hq
    · simp only [if_neg c]
      rw [upd_ne (O.ner p q (by omega) hq)]
      exact G.S _ _ (O.r p q (by omega) hq)
  · by_cases c : p = i
    · simp only [if_pos c]
      exact same_free O.S (G.fr q hq)
    · simp only [if_neg c]
      exact O.fr p q (by omega) hq
  · by_cases c : p = i
    · simp only [if_pos c]
      exact nD
    · simp only [if_neg c]
      exact O.ne p (by omega)
  · by_cases c : p = i
    · simp only [if_pos c]
      exact nA q hq
    · simp only [if_neg c]
      exact O.ner p q (by omega) hq
  · by_cases c : p = i
    · by_cases c' : p' = i
      · simp only [if_pos c, if_pos c'] at e
        exact ⟨by omega, G.inj q q' hq hq' e⟩
      · simp only [if_pos c, if_neg c'] at e
        have := O.r p' q' (by omega) hq'
        rw [← e, G.fr q hq] at this
        cases this
    · by_cases c' : p' = i
      · simp only [if_neg c, if_pos c'] at e
        have := O.r p q (by omega) hq
        rw [e, G.fr q' hq'] at this
        cases this
      · simp only [if_neg c, if_neg c'] at e
        exact O.inj p q p' q' (by omega) hq (by omega) hq' e
theorem inT_nat {ns : List Int} {t : Int} (h : InT ns t) : ∃ k : Nat, t = (k : Int) ∧ k < ns.length := ⟨t.toNat, by have := h.1; omega, by have := h.1; have := h.2; omega⟩
theorem fB_any {ns : List Int} {ts : List (List Int)} (g : GoodB ns) (ha : ∀ u ∈ ts, u ∈ A3 ns.length ns.length) (p q r : Nat) : (!(ts.any (inR ns [(p : Int), (q : Int), (r : Int)]))) = fB (brd ns ts) p q r := by
  unfold fB
  congr 1
  rw [Bool.eq_iff_iff, decide_eq_true_iff, brd_mem g ha, List.any_eq_true]
section
variable {P : Program} {w : World} {K : PySem.W.Frag} {mg : Str → Option Value} {base : Heap}
theorem ok_Llet {f fR : Addr} {fd fdR : FuncData} (F : Fun K "_law_let" "_law_let" s_Llet f fd) (nl : mg "len" = none) (nr : mg "range" = none)
    (GR : Cal P w K mg base CX0 1 "_law_readings" fR fdR ["_law_backs_here", "_law_p", "_law_q", "_law_r"] spLR) : FnOk P w K mg base CX0 2 f fd ["_law_backs_here", "_law_classes_here"] spLL := by
  refine F.ok sc_Llet (fun vs H Q E h => ?_) (fun cdv A outer s H vs Q E hr h => ?_)
  · obtain ⟨b, c, ns, xs, ts, rfl, _⟩ := h
    rfl
  · obtain ⟨b, c, ns, xs, ts, rfl, hb, gb, hc, thr, hA, k⟩ := h
    have h4 := gb.hi
    have hn : 0 < ns.length := by have := gb.lo; omega
    refine ⟨_, (pss_cons 
  (ps_set (i := 2) sc_Llet.nd rfl (Or.inr rfl) (pe_callB call_len_seq (by rfl) nl PySem.boot_len (pa_cons (pv 0) pa_nil))) (pss_cons 
  (ps_setLc (i := 3) (own := [("_law_p", 7)]) (g := gName 7) rfl sc_Llet.nd rfl rfl (sw_true rfl rfl rfl (by decide +kernel)) (pi_range1 (by rfl) nr (pa_cons (pv 2) pa_nil)) (blkOk_by (own := [("_law_p", 7)]) (N := ["_law_backs_here", "_law_classes_here", "_law_many", "_law_let_here", "_law_three", "_law_reading", "_law_row", "_law_p", "_law_q", "_law_r"]) (sc := defScope s_Llet) (by decide +kernel)) (fun _ _ _ _ _ => pg_name (i := 7) sc_Llet.nd rfl (Or.inl rfl)) (fun _ _ _ _ _ => pts_nil) (fun _ _ _ _ _ => (pe_lc (own := [("_law_q", 8)]) (g := gName 8) (by rfl) sc_Llet.nd (pi_range1 (by rfl) nr (pa_cons (pv 2) pa_nil)) (blkOk_by (own := [("_law_q", 8)]) (N := ["_law_backs_here", "_law_classes_here", "_law_many", "_law_let_here", "_law_three", "_law_reading", "_law_row", "_law_p", "_law_q", "_law_r"]) (by rfl)) (fun _ _ _ _ _ => pg_name (i := 8) sc_Llet.nd rfl (Or.inl rfl)) (fun _ _ _ _ _ => pts_nil) (fun _ _ _ _ _ => (pe_lc (own := [("_law_r", 9)]) (g := gName 9) (by rfl) sc_Llet.nd (pi_range1 (by rfl) nr (pa_cons (pv 2) pa_nil)) (blkOk_by (own := [("_law_r", 9)]) (N := ["_law_backs_here", "_law_classes_here", "_law_many", "_law_let_here", "_law_three", "_law_reading", "_law_row", "_law_p", "_law_q", "_law_r"]) (by rfl)) (fun _ _ _ _ _ => pg_name (i := 9) sc_Llet.nd rfl (Or.inl rfl)) (fun _ _ _ _ _ => pts_nil) (fun _ _ _ _ _ => pe_bl)))))) (pss_cons 
  (ps_for PassesOwn.never rfl (pi_list (pv 1)) (pg_name (i := 4) sc_Llet.nd rfl (Or.inl rfl)) (pss_one 
    (ps_for PassesOwn.never rfl (pi_list (pcal GR hr pass0 (pa_cons (pv 0) (pa_cons (pe_ix (r := rIxS K) ix_seq (pv 4) pe_int (fun _ _ => rfl)) (pa_cons (pe_ix (r := rIxS K) ix_seq (pv 4) pe_int (fun _ _ => rfl)) (pa_cons (pe_ix (r := rIxS K) ix_seq (pv 4) pe_int (fun _ _ => rfl)) pa_nil)))))) (pg_name (i := 5) sc_Llet.nd rfl (Or.inl rfl)) (pss_cons 
      (ps_set (i := 6) sc_Llet.nd rfl (Or.inl rfl) (pe_ix ix_list (pe_ix ix_list (pv 3) (pe_ix ix_tup (pv 5) pe_int (fun _ _ => rfl)) (fun _ _ => rfl)) (pe_ix ix_tup (pv 5) pe_int (fun _ _ => rfl)) (fun _ _ => rfl))) (pss_one 
      (ps_asg pe_bl (pg_sub (pv 6) (pe_ix ix_tup (pv 5) pe_int (fun _ _ => rfl)) set_list))))))) (pss_one 
  (ps_ret (pv 3)))))), ?_⟩
    have lm : (ns.map V.int).length = ns.length := List.length_map _
    refine ⟨_, rfl, b, _, rfl, .inl (SqL.of hb), ?_⟩
    rw [lm]
    refine ⟨_, rfl, (ns.length : Nat), rfl, by omega, by omega, fun D hD => ?_⟩
    refine lc_range (lo := 0) (n := ns.length) (fun i H2 => ∃ po ro, OutI ns.length H H2 D i po ro)
      ⟨fun _ => 0, fun _ _ => 0, new_same hD, hD, upd_same, fun p h => absurd h (Nat.not_lt_zero p), fun p q h => absurd h (Nat.not_lt_zero p), fun p q h => absurd h (Nat.not_lt_zero p), fun p h => absurd h (Nat.not_lt_zero p), fun p q h => absurd h (Nat.not_lt_zero p), fun p q p' q' h => absurd h (Nat.not_lt_zero p)⟩ ?_ ?_
    · rintro i H2 hi ⟨po, ro, O⟩
      refine ⟨rfl, yesT ?_⟩
      refine ⟨_, rfl, (ns.length : Nat), rfl, by omega, by omega, fun D2 hD2 => ?_⟩
      refine lc_range (lo := 0) (n := ns.length) (fun j H3 => ∃ adr, GroF H2 H3 D2 j adr (TrueR ns.length)) ⟨fun _ => 0, GroF.nil hD2⟩ ?_ ?_
      · rintro j H3 hj ⟨adr, G⟩
        refine ⟨rfl, yesT ?_⟩
        refine ⟨_, rfl, (ns.length : Nat), rfl, by omega, by omega, fun D3 hD3 => ?_⟩
        refine lc_range (lo := 0) (n := ns.length) (fun l H4 => Same H3 H4 ∧ H3 D3 = none ∧ H4 D3 = some (.lst (trueL l))) ⟨new_same hD3, hD3, upd_same⟩ ?_ ?_
        · rintro l H4 hl ⟨S4, n4, e4⟩
          refine ⟨rfl, yesT ⟨_, e4, ?_, fun b o e => ?_, n4, ?_⟩⟩
          · rw [List.length_map, List.length_range]
            exact small1000 (by omega)
          · rw [upd_ne (ne_of_none e n4)]
            exact S4 _ _ e
          · rw [upd_same]
            show _ = some (HO.lst (List.map _ _))
            rw [List.range_succ, List.map_append]
            rfl
        · rintro H4 ⟨S4, n4, e4⟩
          have n32 : D3 ≠ D2 := (ne_of_none G.d hD3).symm
          obtain ⟨adr', G', _⟩ := G.app (H' := H4) (y := D3) S4 hD3 (by show upd _ _ _ _ = _; rw [upd_ne n32]; exact e4) (fun k' a hk' e => by
            show upd _ _ _ _ = _
            have e' : H3 a = some (.lst (trueL ns.length)) := e
            rw [upd_ne (fun z => by rw [z, G.d] at e'; injection e' with e'; injection e' with e'; exact refs_ne2 (by omega) e')]
            exact S4 _ _ e') (fun k' hk' z => by rw [G.r k' hk'] at z; cases z)
          refine ⟨refsL j adr, S4 _ _ G.d, ?_, adr', G'⟩
          rw [List.length_map, List.length_range]
          exact small1000 (by omega)
      · rintro H3 ⟨adr, G⟩
        refine ⟨refsL i po, G.S _ _ O.d, ?_, _, _, O.app G⟩
        rw [List.length_map, List.length_range]
        exact small1000 (by omega)
    · rintro H2 ⟨po, ro, O⟩
      have w0 : W3 H H2 D ns.length po ro (fun _ _ _ => true) := ⟨O.S, O.f, O.d, O.m, O.r, O.inj, O.fr⟩
      refine ⟨_, rfl, c, rfl, ⟨_, SqL.of (O.S _ _ hc)⟩, for_list (K := K) (a := c) (xs := xs) (fun i σ H' => ∃ v4 v5 v6 v7 v8 v9 : Option V, σ = [some (.ref b), some (.ref c), some (.int (ns.length : Nat)), some (.ref D), v4, v5, v6, v7, v8, v9] ∧ W3 H H' D ns.length po ro (fun p q r => !((ts.take i).any (inR ns [(p : Int), (q : Int), (r : Int)]))))
        ⟨_, _, _, _, _, _, rfl, w0.congr fun p q r _ _ _ => by simp⟩ (fun i σ H' _ ⟨_, _, _, _, _, _, _, w⟩ => SqL.of (w.S _ _ hc)) ?_ ?_⟩
      · rintro i y σ H3 hy ⟨v4, v5, v6, v7, v8, v9, rfl, w3⟩
        obtain ⟨t, et, sy, isy, sq, iy⟩ := paired_at (thr.keep w3.S) hy
        have mt := hA t (List.mem_of_getElem? et)
        obtain ⟨p, q, r, rfl, ip, iq, ir⟩ := A3_in mt (ns := ns) rfl
        obtain ⟨p, rfl, lp⟩ := inT_nat ip
        obtain ⟨q, rfl, lq⟩ := inT_nat iq
        obtain ⟨r, rfl, lr⟩ := inT_nat ir
        obtain ⟨zy, rfl⟩ : ∃ zy, y = .ref zy := by
          cases sy with
          | sc u => cases sq
          | dk => cases sq
          | lst us => obtain ⟨zy, e, _⟩ := isy; exact ⟨zy, e⟩
          | tup us => obtain ⟨zy, e, _⟩ := isy; exact ⟨zy, e⟩
        have sqy := is_seq (K := K) isy iy sq
        have ixy : ∀ (j : Nat) (v : V) (Q' : VK), (([(p : Int), (q : Int), (r : Int)] : List Int).map V.int)[j]? = some v → Q' v H3 → rIxS K (.ref zy) (.int (j : Nat)) H3 Q' := by
          intro j v Q' ej kq
          rcases sqy with h | h
          · exact .inl ⟨_, _, _, _, rfl, rfl, h, at_of (j := j) (v := v) rfl ej, kq⟩
          · exact .inr ⟨_, _, _, _, rfl, rfl, h, at_of (j := j) (v := v) rfl ej, kq⟩
        refine ⟨_, rfl, _, rfl, ixy 0 _ _ rfl ⟨_, rfl, ixy 1 _ _ rfl ⟨_, rfl, ixy 2 _ _ rfl ⟨b, ns, p, q, r, rfl, w3.S _ _ hb, gb, lp, lq, lr, fun H4 zr S4 nzr Lz => ?_⟩⟩⟩⟩
        obtain ⟨rs, d1, d2, d3⟩ := id Lz
        have w4 := w3.keep S4
        have zro : ∀ a b', a < ns.length → b' < ns.length → zr ≠ ro a b' := fun a b' ha hb' z => by
          have := w3.r a b' ha hb'
          rw [← z, nzr] at this
          cases this
        refine ⟨zr, rfl, ⟨_, SqL.of d1⟩, for_list (K := K) (a := zr) (xs := rs.map V.ref) (fun j σ H' => ∃ v5 v6 v7 v8 v9 : Option V, σ = [some (.ref b), some (.ref c), some (.int (ns.length : Nat)), some (.ref D), some (.ref zy), v5, v6, v7, v8, v9] ∧
            W3 H H' D ns.length po ro (fun a b' c' => !((ts.take i).any (inR ns [(a : Int), (b' : Int), (c' : Int)])) && !decide ([(a : Int), (b' : Int), (c' : Int)] ∈ (six ns p q r).take j)) ∧ ∀ u o, (∀ a b', a < ns.length → b' < ns.length → u ≠ ro a b') → H4 u = some o → H' u = some o)
          ⟨_, _, _, _, _, rfl, w4.congr fun a b' c' _ _ _ => by simp, fun u o _ e => e⟩ (fun j σ H' _ ⟨_, _, _, _, _, _, _, fr⟩ => SqL.of (fr _ _ zro d1)) ?_ ?_⟩
        · rintro j y2 σ H5 hy2 ⟨v5, v6, v7, v8, v9, rfl, w5, fr⟩
          rw [List.getElem?_map] at hy2
          cases ea : rs[j]? with
          | none =>
            rw [ea] at hy2
            cases hy2
          | some a0 =>
            rw [ea] at hy2
            obtain rfl : V.ref a0 = y2 := Option.some.inj hy2
            have lj := (List.getElem?_eq_some_iff.mp ea).1
            have el : (six ns p q r)[j]? = some (six ns p q r)[j] := List.getElem?_eq_getElem (by omega)
            generalize (six ns p q r)[j] = t2 at el
            have ha0 := d3 j a0 t2 ea el
            obtain ⟨x1, x2, x3, rfl, i1, i2, i3⟩ := six_in gb ip iq ir t2 (List.mem_of_getElem? el)
            obtain ⟨x1, rfl, l1⟩ := inT_nat i1
            obtain ⟨x2, rfl, l2⟩ := inT_nat i2
            obtain ⟨x3, rfl, l3⟩ := inT_nat i3
            have e0 := fr a0 _ (fun a b' ha hb' z => by
              have := w4.r a b' ha hb'
              rw [← z, ha0] at this
              cases this) ha0
            refine ⟨_, rfl, _, rfl, _, _, _, _, rfl, rfl, SqT.of e0, at_of (j := 0) (v := .int (x1 : Nat)) rfl rfl, _, _, _, _, rfl, rfl, SqL.of w5.o, at_of (j := x1) (v := .ref (po x1)) rfl (refs_at l1), _, rfl, _, _, _, _, rfl, rfl, SqT.of e0, at_of (j := 1) (v := .int (x2 : Nat)) rfl rfl, _, _, _, _, rfl, rfl, SqL.of (w5.m x1 l1), at_of (j := x2) (v := .ref (ro x1 x2)) rfl (refs_at l2), ?_⟩
            refine ⟨_, rfl, _, rfl, _, _, _, _, rfl, rfl, SqT.of e0, at_of (j := 2) (v := .int (x3 : Nat)) rfl rfl, ro x1 x2, _, _, x3, rfl, rfl, w5.r x1 x2 l1 l2, ixN_at (by omega) (by rw [List.length_map, List.length_range]; omega), ?_⟩
            refine ⟨_, _, _, _, _, rfl, (w5.set l1 l2).congr fun a b' c' _ _ _ => ?_, fun u o hu e => ?_⟩
            · rw [List.take_add_one, el, Bool.and_assoc]
              congr 1
              rw [← Bool.not_or]
              congr 1
              rw [Bool.eq_iff_iff, Bool.or_eq_true, decide_eq_true_iff, decide_eq_true_iff, decide_eq_true_iff]
              have cast : ∀ m n : Nat, ((m : Int) = (n : Int)) ↔ m = n := fun m n => by omega
              simp only [List.mem_append, List.mem_cons, List.not_mem_nil, or_false, Option.toList, List.cons.injEq, and_true, cast]
            · rw [upd_ne (hu x1 x2 l1 l2)]
              exact fr u o hu e
        · rintro σ H5 ⟨v5, v6, v7, v8, v9, rfl, w5, fr⟩
          refine ⟨_, _, _, _, _, _, rfl, w5.congr fun a b' c' _ _ _ => ?_⟩
          rw [List.length_map, d2, List.take_length, List.take_add_one, et, List.any_append, ← Bool.not_or]
          simp [inR]
      · rintro σ H3 ⟨v4, v5, v6, v7, v8, v9, rfl, w3⟩
        have e := thr.len
        rw [e, List.take_length] at w3
        exact ⟨_, rfl, k _ D po ro (w3.congr fun p q r _ _ _ => fB_any gb hA p q r)⟩
end
end J

set_option Elab.async false
set_option linter.all false
set_option maxRecDepth 100000
set_option maxHeartbeats 8000000
namespace J
open PySem PySem.Spec PyProof.Rows L2
/-- the world: backs and the table of what is let -/
def WAt (H : Hp) (w : Addr) (ns : List Int) (L : List (List Int)) : Prop := ∃ (b z : Addr) (po : Nat → Addr) (ro : Nat → Nat → Addr), H w = some (.tup [.ref b, .ref z]) ∧ H b = some (.lst (ns.map V.int)) ∧ H z = some (.lst (refsL ns.length po)) ∧
  (∀ p, p < ns.length → H (po p) = some (.lst (refsL ns.length (ro p)))) ∧ ∀ p q, p < ns.length → q < ns.length → H (ro p q) = some (.lst (boolsL ns.length (fB L p q)))
theorem WAt.keep {H H' : Hp} {w : Addr} {ns : List Int} {L : List (List Int)} (h : WAt H w ns L) (S : Same H H') : WAt H' w ns L := by
  obtain ⟨b, z, po, ro, a1, a2, a3, a4, a5⟩ := h
  exact ⟨b, z, po, ro, S _ _ a1, S _ _ a2, S _ _ a3, fun p hp => S _ _ (a4 p hp), fun p q hp hq => S _ _ (a5 p q hp hq)⟩
theorem W3.world {H0 H : Hp} {b z w : Addr} {ns : List Int} {po : Nat → Addr} {ro : Nat → Nat → Addr} {L : List (List Int)} (h : W3 H0 H z ns.length po ro (fB L)) (hb : H b = some (.lst (ns.map V.int))) (hw : H w = some (.tup [.ref b, .ref z])) : WAt H w ns L :=
  ⟨b, z, po, ro, hw, hb, h.o, h.m, h.r⟩
abbrev inL (L : List (List Int)) : List Int → Bool := fun t => decide (t ∈ L)
theorem filt1 {L : List (List Int)} {p q l : Nat} {M : List (List Int)} : (M ++ A1 p q (l + 1)).filter (inL L) = (M ++ A1 p q l).filter (inL L) ++ (if fB L p q l = true then [] else [[(p : Int), (q : Int), (l : Int)]]) := by
  rw [A1_succ, ← List.append_assoc, List.filter_append]
  congr 1
  unfold fB
  by_cases c : [(p : Int), (q : Int), (l : Int)] ∈ L
  · simp [c]
  · simp [c]
abbrev s_Lbarred : Stmt := top 46
theorem sc_Lbarred : FnScope ["_law_world", "_law_many", "_law_found", "_law_p", "_law_q", "_law_r"] ["_law_world"] (defScope s_Lbarred) := ⟨rfl, rfl, rfl, by decide +kernel, rfl, by decide +kernel, by decide +kernel⟩
def spLB : Sp := fun vs H Q _ => ∃ (w : Addr) (ns : List Int) (L : List (List Int)), vs = [.ref w] ∧ WAt H w ns L ∧ GoodB ns ∧ ∀ (H' : Hp) (z : Addr), Same H H' → H z = none → LstsAt H' z ((A3 ns.length ns.length).filter (inL L)) → Q (.ref z) H'
abbrev s_Lsame_barred : Stmt := top 58
theorem sc_Lsame_barred : FnScope ["_law_book_here", "_law_world", "_law_due"] ["_law_book_here", "_law_world"] (defScope s_Lsame_barred) := ⟨rfl, rfl, rfl, by decide +kernel, rfl, by decide +kernel, by decide +kernel⟩
def spLS (C CB : Addr) : Sp := fun vs H Q _ => ∃ (x w : Addr) (ns : List Int) (L : List (List Int)), vs = [.ref x, .ref w] ∧ BookAt C CB H x ns L ∧ WAt H w ns L ∧ GoodB ns ∧ (A3 ns.length ns.length).filter (inL L) = L ∧ ∀ H', Same H H' → Q (.bl true) H'
section
variable {P : Program} {w : World} {K : PySem.W.Frag} {mg : Str → Option Value} {base : Heap}
theorem ok_Lbarred {f : Addr} {fd : FuncData} (F : Fun K "_law_barred" "_law_barred" s_Lbarred f fd) (nl : mg "len" = none) (nr : mg "range" = none) : FnOk P w K mg base CX0 1 f fd ["_law_world"] spLB := by
  refine F.ok sc_Lbarred (fun vs H Q E h => ?_) (fun cdv A outer s H vs Q E hr h => ?_)
  · obtain ⟨w, ns, L, rfl, _⟩ := h
    rfl
  · obtain ⟨w, ns, L, rfl, hW, gb, k⟩ := h
    have h4 := gb.hi
    obtain ⟨b, z, po, ro, a1, a2, a3, a4, a5⟩ := id hW
    refine ⟨_, (pss_cons 
  (ps_set (i := 1) sc_Lbarred.nd rfl (Or.inl rfl) (pe_callB call_len_seq (by rfl) nl PySem.boot_len (pa_cons (pe_ix ix_tup (pv 0) pe_int (fun _ _ => rfl)) pa_nil))) (pss_cons 
  (ps_set (i := 2) sc_Lbarred.nd rfl (Or.inl rfl) (pe_lst pa_nil)) (pss_cons 
  (ps_for PassesOwn.never rfl (pi_range1 (by rfl) nr (pa_cons (pv 1) pa_nil)) (pg_name (i := 3) sc_Lbarred.nd rfl (Or.inr rfl)) (pss_one 
    (ps_for PassesOwn.never rfl (pi_range1 (by rfl) nr (pa_cons (pv 1) pa_nil)) (pg_name (i := 4) sc_Lbarred.nd rfl (Or.inr rfl)) (pss_one 
      (ps_set (i := 2) sc_Lbarred.nd rfl (Or.inl rfl) (pe_op op_cat (pv 2) (pe_lc (own := [("_law_r", 5)]) (g := gName 5) (by rfl) sc_Lbarred.nd (pi_range1 (by rfl) nr (pa_cons (pv 1) pa_nil)) (blkOk_by (own := [("_law_r", 5)]) (N := ["_law_world", "_law_many", "_law_found", "_law_p", "_law_q", "_law_r"]) (sc := defScope s_Lbarred) (by decide +kernel)) (fun _ _ _ _ _ => pg_name (i := 5) sc_Lbarred.nd rfl (Or.inl rfl)) (fun _ _ _ _ _ => pts_one (pt_not (pt_val (pe_ix (r := rIxL K) ix_list (pe_ix (r := rIxL K) ix_list (pe_ix (r := rIxL K) ix_list (pe_ix (r := rIxT K) ix_tup (pv 0) pe_int (fun _ _ => rfl)) (pv 3) (fun _ _ => rfl)) (pv 4) (fun _ _ => rfl)) (pv 5) (fun _ _ => rfl))))) (fun _ _ _ _ _ => (pe_tup (pa_cons (pv 3) (pa_cons (pv 4) (pa_cons (pv 5) pa_nil)))))))))))) (pss_one 
  (ps_ret (pv 2)))))), ?_⟩
    have lm : (ns.map V.int).length = ns.length := List.length_map _
    refine ⟨_, rfl, _, _, _, _, rfl, rfl, SqT.of a1, at_of (j := 0) (v := .ref b) rfl rfl, b, _, rfl, .inl (SqL.of a2), ?_⟩
    rw [lm]
    refine ⟨(by show 0 ≤ sizeLine; decide), fun D hD => ?_⟩
    refine ⟨_, rfl, (ns.length : Nat), rfl, by omega, by omega, for_range (lo := 0) (n := ns.length) (fun i σ H' => ∃ (D : Addr) (v3 v4 v5 : Option V), σ = [some (.ref w), some (.int (ns.length : Nat)), some (.ref D), v3, v4, v5] ∧ H D = none ∧ Same H H' ∧ LstsAt H' D ((A3 ns.length i).filter (inL L)))
      ⟨D, none, none, none, rfl, hD, new_same hD, [], upd_same, rfl, fun j a ts e => by simp at e⟩ ?_ ?_⟩
    · rintro i σ H2 hi ⟨D, v3, v4, v5, rfl, nD, S2, L2⟩
      refine ⟨_, rfl, (ns.length : Nat), rfl, by omega, by omega, for_range (lo := 0) (n := ns.length) (fun j σ H' => ∃ (D : Addr) (v4 v5 : Option V), σ = [some (.ref w), some (.int (ns.length : Nat)), some (.ref D), some (.int (0 + (i : Nat))), v4, v5] ∧ H D = none ∧ Same H H' ∧ LstsAt H' D ((A3 ns.length i ++ A2 ns.length i j).filter (inL L)))
        ⟨D, _, _, rfl, nD, S2, by unfold A2; simpa using L2⟩ ?_ ?_⟩
      · rintro j σ H3 hj ⟨D, v4, v5, rfl, nD, S3, L3⟩
        have c1 := S3 _ _ a1
        have c3 := S3 _ _ a3
        have c4 := S3 _ _ (a4 i hi)
        have c5 := S3 _ _ (a5 i j hi hj)
        refine ⟨_, rfl, _, rfl, (ns.length : Nat), rfl, by omega, by omega, fun D2 hD2 => ?_⟩
        refine lc_range (lo := 0) (n := ns.length) (fun l H4 => Gro H3 H4 D2 ((A1 i j l).filter (inL L))) (by unfold A1; exact Gro.nil hD2) ?_ ?_
        · intro l H4 hl G4
          have ln := A_len ns.length h4 i hi j hj l hl
          refine ⟨rfl, _, rfl, _, _, _, _, rfl, rfl, SqT.of (G4.S _ _ c1), at_of (j := 1) (v := .ref z) rfl rfl, _, rfl, _, _, _, _, rfl, rfl, SqL.of (G4.S _ _ c3), at_of (j := i) (v := .ref (po i)) (by rw [Int.zero_add]) (refs_at hi), _, rfl, _, _, _, _, rfl, rfl, SqL.of (G4.S _ _ c4), at_of (j := j) (v := .ref (ro i j)) (by rw [Int.zero_add]) (refs_at hj), _, rfl, _, _, _, _, rfl, rfl, SqL.of (G4.S _ _ c5), at_of (j := l) (v := .bl (fB L i j l)) (by rw [Int.zero_add]) (bools_at hl), _, rfl, ?_⟩
          have nx := filt1 (L := L) (p := i) (q := j) (l := l) (M := [])
          rw [List.nil_append, List.nil_append] at nx
          cases hc : fB L i j l with
          | true =>
            refine iteF ?_
            rw [nx, if_pos hc, List.append_nil]
            exact G4
          | false =>
            refine iteT ⟨_, rfl, _, rfl, _, rfl, (by show 3 ≤ sizeLine; decide), fun u hu => ?_⟩
            obtain ⟨acc, q1, q2, q3⟩ := G4.snoc (ts := [(i : Int), (j : Int), (l : Int)]) hu
            have e3 : ([(i : Int), (j : Int), (l : Int)].map V.int) = [V.int (0 + (i : Nat)), V.int (0 + (j : Nat)), V.int (0 + (l : Nat))] := by simp
            rw [e3] at q1 q3
            have fl := List.length_filter_le (inL L) (A1 i j l)
            refine ⟨acc, q1, ?_, ?_⟩
            · rw [q2]
              have : (A1 i j l).length ≤ (A3 ns.length i ++ A2 ns.length i j ++ A1 i j l).length := by rw [List.length_append]; omega
              exact small1000 (by omega)
            · rw [nx, if_neg (by rw [hc]; decide)]
              exact q3
        · rintro H4 G4
          obtain ⟨xs1, d1, d2, d3⟩ := L3.keep G4.S
          obtain ⟨xs2, f1, f2, f3⟩ := id G4.d
          have len2 := A_len2 ns.length h4 i hi j hj
          have fl1 := List.length_filter_le (inL L) (A3 ns.length i ++ A2 ns.length i j)
          have fl2 := List.length_filter_le (inL L) (A1 i j ns.length)
          refine ⟨D, D2, _, _, rfl, rfl, d1, f1, ?_, fun D3 hD3 => ?_⟩
          · rw [List.length_map, List.length_map, d2, f2, sizeLine_eq]
            omega
          · refine ⟨D3, _, _, rfl, same_free S3 (same_free G4.S hD3), (S3.trans G4.S).trans (new_same hD3), ?_⟩
            have e : (A3 ns.length i ++ A2 ns.length i (j + 1)).filter (inL L) = (A3 ns.length i ++ A2 ns.length i j).filter (inL L) ++ (A1 i j ns.length).filter (inL L) := by
              rw [A2_succ, ← List.append_assoc, List.filter_append]
            rw [e]
            exact LstsAt.app ⟨xs1, d1, d2, d3⟩ G4.lsts d1 f1 (new_same hD3) upd_same
      · rintro σ H3 ⟨D, v4, v5, rfl, nD, S3, L3⟩
        refine ⟨D, _, _, _, rfl, nD, S3, ?_⟩
        rw [A3_succ]
        exact L3
    · rintro σ H2 ⟨D, v3, v4, v5, rfl, nD, S2, L2⟩
      exact ⟨_, rfl, k _ D S2 nD L2⟩
theorem ok_Lsame_barred {f C CB fB fP fP' : Addr} {fd fdB fdP fdP' : FuncData} (F : Fun K "_law_same_barred" "_law_same_barred" s_Lsame_barred f fd) (T : TiC K C) (c : BoX K mg CB) (nis : mg "isinstance" = none) (nt : mg "tuple" = none)
    (GB : Cal P w K mg base CX0 1 "_law_barred" fB fdB ["_law_world"] spLB) (GP2 : Cal P w K mg base CX0 3 "_law_plain" fP fdP ["_law_answer", "_law_due"] spP2) (GP1 : Cal P w K mg base CX0 2 "_law_plain" fP' fdP' ["_law_answer", "_law_due"] spP1) :
    FnOk P w K mg base CX0 4 f fd ["_law_book_here", "_law_world"] (spLS C CB) := by
  refine F.ok sc_Lsame_barred (fun vs H Q E h => ?_) (fun cdv A outer s H vs Q E hr h => ?_)
  · obtain ⟨x, w, ns, L, rfl, _⟩ := h
    rfl
  · obtain ⟨x, w, ns, L, rfl, hB, hW, gb, hL, k⟩ := h
    refine ⟨_, (pss_cons 
  (ps_set (i := 2) sc_Lsame_barred.nd rfl (Or.inl rfl) (pe_callTy (T := "tuple") (r := rTup K) call_tuple_of (by rfl) nt (by decide +kernel) (pa_cons (pcal GB hr pass0 (pa_cons (pv 1) pa_nil)) pa_nil))) (pss_one 
  (ps_ret (pe_and (pe_callB call_isi (by rfl) nis (by decide +kernel) (pa_cons (pv 0) (pa_cons (pe_glob (v := .ref CB) rfl c.mB rfl) pa_nil))) (pe_and (pcal GP2 hr pass0 (pa_cons (pe_fld (pv 0) rfl) (pa_cons (pv 2) pa_nil))) (pe_one (pcal GP1 hr pass0 (pa_cons (pe_fld (pe_fld (pv 0) rfl) rfl) (pa_cons (pe_callTy (T := "tuple") (r := rTup K) call_tuple_of (by rfl) nt (by decide +kernel) (pa_cons (pe_ix ix_tup (pv 1) pe_int (fun _ _ => rfl)) pa_nil)) pa_nil))))))))), ?_⟩
    refine ⟨_, rfl, w, ns, L, rfl, hW, gb, fun H1 z S1 nz Lz => ?_⟩
    rw [hL] at Lz
    obtain ⟨ps, d1, d2, d3⟩ := id Lz
    refine ⟨z, _, rfl, .inl ⟨SqL.of d1, fun u hu => ?_⟩⟩
    have S2 : Same H1 (upd H1 u (.tup (ps.map V.ref))) := new_same hu
    have TU : TupsAt (upd H1 u (.tup (ps.map V.ref))) u L := Lz.tup d1 hu
    generalize upd H1 u (.tup (ps.map V.ref)) = H2 at S2 TU
    obtain ⟨dx, t, b, l, r, a1, a2, a3, a4, a5⟩ := hB.keep (S1.trans S2)
    refine ⟨_, rfl, _, _, _, _, true, rfl, .own CB, .base (.ins a1 c.cl c.isc.ha c.isc.hn c.isc.htk c.isc.hm), c.isc.me, _, rfl, if_tr rfl ?_⟩
    refine ⟨_, rfl, x, CB, dx, _, _, rfl, a1, c.cl, c.nB, bf_barred _ _ _ _, _, rfl, b, u, L, rfl, a3, TU, fun H3 S3 => ⟨_, rfl, if_tr rfl ?_⟩⟩
    obtain ⟨dt, tb, w1, w2⟩ := a2.keep S3
    obtain ⟨bb, zz, po, ro, c1, c2, _⟩ := hW.keep ((S1.trans S2).trans S3)
    refine ⟨_, rfl, x, CB, dx, _, _, rfl, S3 _ _ a1, c.cl, c.nT, bf_ties _ _ _ _, t, C, dt, _, _, rfl, w1, T.cl, T.nB, tf_backs _ _, _, rfl, _, _, _, _, rfl, rfl, SqT.of c1, at_of (j := 0) (v := .ref bb) rfl rfl, bb, _, rfl, .inl ⟨SqL.of c2, fun y hy => ?_⟩⟩
    have S4 : Same H3 (upd H3 y (.tup (ns.map V.int))) := new_same hy
    exact ⟨tb, y, ns, rfl, S4 _ _ w2, upd_same, fun H5 S5 => k _ ((((S1.trans S2).trans S3).trans S4).trans S5)⟩
end
end J

set_option Elab.async false
set_option linter.all false
set_option maxRecDepth 100000
set_option maxHeartbeats 8000000
namespace J
open PySem PySem.Spec PyProof.Rows L2
/-! ### the mathematics of the law -/
theorem Is.but {h : Addr} {H H' : Hp} {v : V} {s : Sh} (i : Is H v s) (n : v ≠ .ref h) (B : But h H H') : Is H' v s := by
  cases s with
  | sc u => exact i
  | dk => obtain ⟨a, kvs, e, q⟩ := i; exact ⟨a, kvs, e, B _ _ (fun z => n (by rw [e, z])) q⟩
  | lst xs => obtain ⟨a, e, q⟩ := i; exact ⟨a, e, B _ _ (fun z => n (by rw [e, z])) q⟩
  | tup xs => obtain ⟨a, e, q⟩ := i; exact ⟨a, e, B _ _ (fun z => n (by rw [e, z])) q⟩
theorem hand_free {H : Hp} {h q z : Addr} (x : Hand H h q) (hz : H z = none) : z ≠ h := fun e => (x.h_ne hz).1 e.symm
theorem filt_self {A : List (List Int)} {p : List Int → Bool} : A.filter (fun t => decide (t ∈ A.filter p)) = A.filter p :=
  List.filter_congr fun x hx => by
    cases h : p x with
    | true => exact decide_eq_true (List.mem_filter.mpr ⟨hx, h⟩)
    | false =>
      refine decide_eq_false fun z => ?_
      have := (List.mem_filter.mp z).2
      rw [h] at this
      cases this
theorem inL_brd {ns : List Int} {ts : List (List Int)} : (A3 ns.length ns.length).filter (inL (brd ns ts)) = brd ns ts := by
  unfold inL brd
  exact filt_self
theorem inL_lts {ns : List Int} {ts : List (List Int)} : (A3 ns.length ns.length).filter (inL (lts ns ts)) = lts ns ts := by
  unfold inL lts
  exact filt_self
theorem inL_A3 {ns : List Int} : (A3 ns.length ns.length).filter (inL (A3 ns.length ns.length)) = A3 ns.length ns.length := by
  rw [List.filter_eq_self]
  exact fun x hx => decide_eq_true hx
theorem least_filter {ns : List Int} {ts : List (List Int)} : ((A3 ns.length ns.length).filter (isL ns)).filter (inL (brd ns ts)) = (brd ns ts).filter (isL ns) := by
  rw [← inL_brd, List.filter_filter, List.filter_filter]
  refine List.filter_congr fun x _ => ?_
  rw [Bool.and_comm, inL_brd]
theorem min_ex : ∀ {L : List (List Int)}, L ≠ [] → ∃ t ∈ L, ∀ u ∈ L, TS.code 4 t ≤ TS.code 4 u
  | [], h => absurd rfl h
  | [t], _ => ⟨t, List.mem_cons_self, fun u hu => by
      rw [List.mem_singleton.mp hu]
      exact Int.le_refl _⟩
  | t :: v :: L, _ => by
    obtain ⟨m, hm, hl⟩ := min_ex (L := v :: L) (by simp)
    by_cases c : TS.code 4 t ≤ TS.code 4 m
    · refine ⟨t, List.mem_cons_self, fun u hu => ?_⟩
      rcases List.mem_cons.mp hu with rfl | hu
      · exact Int.le_refl _
      · exact Int.le_trans c (hl u hu)
    · refine ⟨m, List.mem_cons_of_mem _ hm, fun u hu => ?_⟩
      rcases List.mem_cons.mp hu with rfl | hu
      · omega
      · exact hl u hu
theorem least_ex {ns : List Int} {t : List Int} (g : GoodB ns) (ht : t ∈ A3 ns.length ns.length) : ∃ u ∈ A3 ns.length ns.length, isL ns u = true ∧ inR ns u t = true := by
  obtain ⟨p, q, r, rfl, ip, iq, ir⟩ := A3_in ht (ns := ns) rfl
  obtain ⟨m, hm, hl⟩ := min_ex (L := six ns p q r) (by simp [six])
  obtain ⟨a, b, c, rfl, ia, ib, ic⟩ := six_in g ip iq ir m hm
  refine ⟨[a, b, c], in_A3 ia ib ic, ?_, decide_eq_true hm⟩
  have sm := six_same g ip iq ir hm
  have := min_isL g ia ib ic (t := [a, b, c]) (by simp [six]) fun u hu => hl u ((sm u).mp hu)
  rw [← this]
  exact decide_eq_true rfl
theorem brd_eq {ns : List Int} {us ts : List (List Int)} (g : GoodB ns) (hu : ∀ u ∈ us, u ∈ A3 ns.length ns.length) (ht : ∀ u ∈ ts, u ∈ A3 ns.length ns.length) (h : ∀ t, t ∈ A3 ns.length ns.length → ((∃ u ∈ us, inR ns t u = true) ↔ ∃ u ∈ ts, inR ns t u = true)) : brd ns us = brd ns ts := by
  unfold brd
  refine List.filter_congr fun x hx => ?_
  rw [Bool.eq_iff_iff, List.any_eq_true, List.any_eq_true]
  exact h x hx
theorem brd_least {ns : List Int} (g : GoodB ns) : brd ns ((A3 ns.length ns.length).filter (isL ns)) = A3 ns.length ns.length := by
  unfold brd
  rw [List.filter_eq_self]
  intro x hx
  obtain ⟨u, hu, h1, h2⟩ := least_ex g hx
  exact List.any_eq_true.mpr ⟨u, List.mem_filter.mpr ⟨hu, h1⟩, inR_swap g hx h2⟩
/-- any readings of the least that are barred bar the same -/
theorem brd_again {ns : List Int} {ts us : List (List Int)} (g : GoodB ns) (ha : ∀ u ∈ ts, u ∈ A3 ns.length ns.length) (h : Paired (fun u m => inR ns u m = true) us ((brd ns ts).filter (isL ns))) : brd ns us = brd ns ts := by
  have hm : ∀ m ∈ (brd ns ts).filter (isL ns), m ∈ brd ns ts := fun m hm => (List.mem_filter.mp hm).1
  have hb : ∀ m ∈ brd ns ts, isL ns m = true → m ∈ (brd ns ts).filter (isL ns) := fun m h1 h2 => List.mem_filter.mpr ⟨h1, h2⟩
  generalize (brd ns ts).filter (isL ns) = M at h hm hb
  have fw : ∀ u ∈ us, ∃ m ∈ M, inR ns u m = true := by
    clear hm hb
    induction h with
    | nil => intro u hu; cases hu
    | cons r _ ih =>
      intro u hu
      rcases List.mem_cons.mp hu with rfl | hu
      · exact ⟨_, List.mem_cons_self, r⟩
      · obtain ⟨m, h1, h2⟩ := ih u hu
        exact ⟨m, List.mem_cons_of_mem _ h1, h2⟩
  have bw : ∀ m ∈ M, ∃ u ∈ us, inR ns u m = true := by
    clear hm hb fw
    induction h with
    | nil => intro u hu; cases hu
    | cons r _ ih =>
      intro u hu
      rcases List.mem_cons.mp hu with rfl | hu
      · exact ⟨_, List.mem_cons_self, r⟩
      · obtain ⟨m, h1, h2⟩ := ih u hu
        exact ⟨m, List.mem_cons_of_mem _ h1, h2⟩
  have uA : ∀ u ∈ us, u ∈ A3 ns.length ns.length := fun u hu => by
    obtain ⟨m, h1, h2⟩ := fw u hu
    exact inR_A3 g (brd_A3 m (hm m h1)) h2
  refine brd_eq g uA ha fun t ht => ⟨?_, ?_⟩
  · rintro ⟨u, hu, e⟩
    obtain ⟨m, h1, h2⟩ := fw u hu
    have := brd_in g ha (inR_trans g (brd_A3 m (hm m h1)) e h2) (hm m h1)
    exact (brd_mem g ha).mp this
  · intro e
    have tb : t ∈ brd ns ts := (brd_mem g ha).mpr e
    obtain ⟨m, m1, m2, m3⟩ := least_ex g ht
    have mb := brd_in g ha m3 tb
    obtain ⟨u, hu, e2⟩ := bw m (hb m mb m2)
    exact ⟨u, hu, inR_trans g (uA u hu) (inR_swap g ht m3) (inR_swap g m1 e2)⟩
theorem brd_nil {ns : List Int} : brd ns [] = [] := by
  unfold brd
  rw [List.filter_eq_nil_iff]
  intro a _ h
  cases h
/-- the indices of the wrong ones -/
def wrs : Nat → List Bool → List Int
  | _, [] => []
  | k, true :: gs => wrs (k + 1) gs
  | k, false :: gs => (k : Int) :: wrs (k + 1) gs
theorem wrs_app : ∀ {gs hs : List Bool} {k : Nat}, wrs k (gs ++ hs) = wrs k gs ++ wrs (k + gs.length) hs
  | [], hs, k => by simp [wrs]
  | true :: gs, hs, k => by
    show wrs (k + 1) (gs ++ hs) = wrs (k + 1) gs ++ wrs (k + (gs.length + 1)) hs
    rw [wrs_app, show k + 1 + gs.length = k + (gs.length + 1) by omega]
  | false :: gs, hs, k => by
    show (k : Int) :: wrs (k + 1) (gs ++ hs) = (k : Int) :: (wrs (k + 1) gs ++ wrs (k + (gs.length + 1)) hs)
    rw [wrs_app, show k + 1 + gs.length = k + (gs.length + 1) by omega]
theorem wrs_take {gs : List Bool} {i : Nat} {g : Bool} (h : gs[i]? = some g) : wrs 0 (gs.take (i + 1)) = wrs 0 (gs.take i) ++ if g = true then [] else [(i : Int)] := by
  have hi := (List.getElem?_eq_some_iff.mp h).1
  rw [List.take_add_one, h, wrs_app, List.length_take, Nat.min_eq_left (Nat.le_of_lt hi), Nat.zero_add]
  cases g <;> rfl
theorem wrs_len : ∀ {gs : List Bool} {k : Nat}, (wrs k gs).length ≤ gs.length
  | [], _ => Nat.le_refl _
  | true :: gs, k => Nat.le_succ_of_le (wrs_len (gs := gs))
  | false :: gs, k => Nat.succ_le_succ (wrs_len (gs := gs))
theorem wrs_head : ∀ {gs : List Bool} {k : Nat} {a : Int} {r : List Int}, wrs k gs = a :: r → ∃ j : Nat, a = ((k + j : Nat) : Int) ∧ gs[j]? = some false ∧ ∀ (i : Nat) (g : Bool), i < j → gs[i]? = some g → g = true
  | [], _, _, _, h => by cases h
  | true :: gs, k, a, r, h => by
    obtain ⟨j, e1, e2, e3⟩ := wrs_head (gs := gs) (k := k + 1) h
    refine ⟨j + 1, by rw [e1]; congr 1; omega, by simpa using e2, fun i g hi eg => ?_⟩
    cases i with
    | zero => simpa using eg.symm
    | succ i => exact e3 i g (by omega) (by simpa using eg)
  | false :: gs, k, a, r, h => by
    injection h with h1 h2
    exact ⟨0, by rw [← h1]; rfl, rfl, fun i g hi => by omega⟩
/-! ### what the hand's draws leave -/
theorem WAt.but {H H' : Hp} {h q w : Addr} {ns : List Int} {L : List (List Int)} (W : WAt H w ns L) (hh : Hand H h q) (gb : GoodB ns) (n2 : 2 ≤ ns.length) (B : But h H H') : WAt H' w ns L := by
  obtain ⟨b, z, po, ro, a1, a2, a3, a4, a5⟩ := W
  obtain ⟨cs, i, r, t, e1, _⟩ := hh
  have nl : ∀ (a : Addr) (xs : List V), H a = some (.lst xs) → (∀ u v ws, xs = u :: v :: ws → (∀ x, u ≠ .ref x) ∨ ∀ j, v ≠ .int j) → 2 ≤ xs.length → H' a = some (.lst xs) := fun a xs ea hx hl => by
    refine B a _ (fun e => ?_) ea
    rw [e, e1] at ea
    have ea := HO.lst.inj (Option.some.inj ea)
    rcases hx _ _ _ ea.symm with k | k
    · exact k _ rfl
    · exact k _ rfl
  have two : ∀ {α : Type} {ls : List α}, 2 ≤ ls.length → ∃ u v ws, ls = u :: v :: ws := fun {α} {ls} hl => by
    match ls, hl with
    | u :: v :: ws, _ => exact ⟨u, v, ws, rfl⟩
  have refs : ∀ (g : Nat → Addr) (u v : V) (ws : List V), refsL ns.length g = u :: v :: ws → (∀ x, u ≠ .ref x) ∨ ∀ j, v ≠ .int j := fun g u v ws e => .inr fun j ej => by
    have : (refsL ns.length g)[1]? = some v := by rw [e]; rfl
    rw [refs_at (by omega), ej] at this
    cases this
  have bools : ∀ (g : Nat → Bool) (u v : V) (ws : List V), boolsL ns.length g = u :: v :: ws → (∀ x, u ≠ .ref x) ∨ ∀ j, v ≠ .int j := fun g u v ws e => .inl fun j ej => by
    have : (boolsL ns.length g)[0]? = some u := by rw [e]; rfl
    rw [bools_at (by omega), ej] at this
    cases this
  have lr : ∀ g, 2 ≤ (refsL ns.length g).length := fun g => by simp only [refsL, List.length_map, List.length_range]; exact n2
  have lb : ∀ g, 2 ≤ (boolsL ns.length g).length := fun g => by simp only [boolsL, List.length_map, List.length_range]; exact n2
  refine ⟨b, z, po, ro, B _ _ (fun e => ?_) a1, nl _ _ a2 (fun u v ws e => .inl fun x ex => ?_) (by rw [List.length_map]; exact n2), nl _ _ a3 (refs _) (lr _), fun p hp => nl _ _ (a4 p hp) (refs _) (lr _), fun p q hp hq => nl _ _ (a5 p q hp hq) (bools _) (lb _)⟩
  · rw [e, e1] at a1
    cases a1
  · cases ns with
    | nil => cases e
    | cons m ms =>
      rw [List.map_cons] at e
      injection e with e _
      rw [← e] at ex
      cases ex
theorem TupsAt.but {H H' : Hp} {h z : Addr} {us : List V} {L : List (List Int)} (T : TupsAt H z L) (eh : H h = some (.lst us)) (B : But h H H') : TupsAt H' z L := by
  obtain ⟨ps, a, b, c⟩ := T
  exact ⟨ps, tup_but eh B a, b, fun j x ts e1 e2 => tup_but eh B (c j x ts e1 e2)⟩
theorem TabAt.but {n : Nat} {H H' : Hp} {h z : Addr} {us : List V} {L : List (List Int)} (T : TabAt n L H z) (eh : H h = some (.lst us)) (B : But h H H') : TabAt n L H' z := by
  obtain ⟨ps, a, b, c⟩ := T
  exact ⟨ps, tup_but eh B a, b, fun p x e => (c p x e).keep fun y xs e => tup_but eh B e⟩
theorem BookAt.but {C CB : Addr} {H H' : Hp} {h x : Addr} {us : List V} {ns : List Int} {L : List (List Int)} (T : BookAt C CB H x ns L) (eh : H h = some (.lst us)) (B : But h H H') : BookAt C CB H' x ns L := by
  obtain ⟨dx, t, b, l, r, a1, a2, a3, a4, a5⟩ := T
  exact ⟨dx, t, b, l, r, B _ _ (fun e => by rw [e, eh] at a1; cases a1) a1, a2.but eh B, a3.but eh B, a4.but eh B, a5.but eh B⟩
/-- what is no list stays, and all that stood in S0 -/
def NL (S0 H H' : Hp) : Prop := ∀ a o, H a = some o → ((∀ xs, o ≠ .lst xs) ∨ S0 a ≠ none) → H' a = some o
theorem NL.refl (S0 H : Hp) : NL S0 H H := fun _ _ e _ => e
theorem NL.trans {S0 H H1 H2 : Hp} (a : NL S0 H H1) (b : NL S0 H1 H2) : NL S0 H H2 := fun c o e n => b c o (a c o e n) n
theorem NL.put {S0 H : Hp} {a : Addr} {xs ys : List V} (e : H a = some (.lst xs)) (n : S0 a = none) : NL S0 H (upd H a (.lst ys)) := fun c o ec h => by
  by_cases q : c = a
  · subst q
    rw [e] at ec
    obtain rfl := Option.some.inj ec
    rcases h with h | h
    · exact (h _ rfl).elim
    · exact (h n).elim
  · rw [upd_ne q]
    exact ec
theorem NL.same {S0 H H' : Hp} (S : Same H H') : NL S0 H H' := fun a o e _ => S a o e
theorem NL.tup {S0 H H' : Hp} (N : NL S0 H H') {b : Addr} {xs : List V} (e : H b = some (.tup xs)) : H' b = some (.tup xs) := N _ _ e (.inl fun _ z => nomatch z)
theorem TupsAt.nl {S0 H H' : Hp} {z : Addr} {L : List (List Int)} (T : TupsAt H z L) (N : NL S0 H H') : TupsAt H' z L := by
  obtain ⟨ps, a, b, c⟩ := T
  exact ⟨ps, N.tup a, b, fun j x ts e1 e2 => N.tup (c j x ts e1 e2)⟩
theorem TabAt.nl {S0 : Hp} {n : Nat} {H H' : Hp} {z : Addr} {L : List (List Int)} (T : TabAt n L H z) (N : NL S0 H H') : TabAt n L H' z := by
  obtain ⟨ps, a, b, c⟩ := T
  exact ⟨ps, N.tup a, b, fun p x e => (c p x e).keep fun y xs e => N.tup e⟩
theorem TiesAt.nl {S0 H H' : Hp} {C x : Addr} {ns : List Int} (T : TiesAt C H x ns) (N : NL S0 H H') : TiesAt C H' x ns := by
  obtain ⟨d, tb, a, b⟩ := T
  exact ⟨d, tb, N _ _ a (.inl fun _ z => nomatch z), N.tup b⟩
theorem BookAt.nl {S0 H H' : Hp} {C CB : Addr} {x : Addr} {ns : List Int} {L : List (List Int)} (T : BookAt C CB H x ns L) (N : NL S0 H H') : BookAt C CB H' x ns L := by
  obtain ⟨dx, t, b, l, r, a1, a2, a3, a4, a5⟩ := T
  exact ⟨dx, t, b, l, r, N _ _ a1 (.inl fun _ z => nomatch z), a2.nl N, a3.nl N, a4.nl N, a5.nl N⟩
theorem NL.old {S0 H H' : Hp} (N : NL S0 H H') {a : Addr} {o : HO} (e : H a = some o) (n : S0 a ≠ none) : H' a = some o := N _ _ e (.inr n)
theorem Hand.nl {S0 H H' : Hp} {h q : Addr} (x : Hand H h q) (N : NL S0 H H') (n1 : S0 h ≠ none) (n2 : S0 q ≠ none) : Hand H' h q := by
  obtain ⟨cs, i, r, t, e1, e2, z⟩ := x
  exact ⟨cs, i, r, t, N.old e1 n1, N.old e2 n2, z⟩
theorem some_ne {H : Hp} {a : Addr} {o : HO} (e : H a = some o) : H a ≠ none := fun z => by rw [e] at z; cases z
def spShape2 : Sp := fun vs H Q _ => ∃ (h q : Addr) (v : V) (s : Sh), vs = [.ref h, v] ∧ Hand H h q ∧ Is H v s ∧ (s.isL || s.isT) = true ∧ v ≠ .ref h ∧ ∀ (H' : Hp) (z : Addr) (s' : Sh), But h H H' → Hand H' h q → Is H' (.ref z) s' → items s' = items s → (s'.isL || s'.isT) = true → z ≠ h → (s'.isL = true → H z = none) → Q (.ref z) H'
section
variable {P : Program} {w : World} {K : PySem.W.Frag} {mg : Str → Option Value} {base : Heap}
theorem ok_Lshape2 {f fD : Addr} {fd fdD : FuncData} (F : Fun K "_law_shape" "_law_shape" s_Lshape f fd) (nli : mg "list" = none) (nt : mg "tuple" = none) (GD : Cal P w K mg base CX0 2 "_law_draw" fD fdD ["_law_hand_here", "_law_many"] spDraw) : FnOk P w K mg base CX0 3 f fd ["_law_hand_here", "_law_row"] spShape2 := by
  refine F.ok sc_Lshape (fun vs H Q E h => ?_) (fun cdv A outer s H vs Q E hr h => ?_)
  · obtain ⟨h, q, t, ts, rfl, _⟩ := h
    rfl
  · obtain ⟨h, q, v, s0, rfl, hh, iv, sq, nv, k⟩ := h
    refine ⟨_, (pss_cons 
  (ps_if (pt_cmpR op_eq (pcal GD hr pass0 (pa_cons (pv 0) (pa_cons pe_int pa_nil))) pe_int (nomark _)) (pss_one 
    (ps_ret (pe_callTy (T := "list") (r := rLst K) call_list_of (by rfl) nli (by decide +kernel) (pa_cons (pv 1) pa_nil)))) pss_nil) (pss_one 
  (ps_ret (pe_callTy (T := "tuple") (r := rTup K) call_tuple_of (by rfl) nt (by decide +kernel) (pa_cons (pv 1) pa_nil))))), ?_⟩
    refine ⟨_, rfl, h, q, 2, rfl, by decide, by decide, hh, fun n H1 v0 v2 b1 h1 => ⟨rfl, _, rfl, ?_⟩⟩
    have i1 := iv.but nv b1
    cases s0 with
    | sc u => cases sq
    | dk => cases sq
    | lst xs =>
      obtain ⟨t, rfl, et⟩ := i1
      have nth : t ≠ h := fun e => nv (by rw [e])
      refine ifD (fun c => ?_) (fun c => ?_)
      · refine ⟨_, rfl, t, _, rfl, .inl (SqL.of et), fun z hz => ?_⟩
        have nz := hand_free h1 hz
        exact k _ z (.lst xs) (b1.trans (But.new hz)) (h1.new hz) ⟨z, rfl, upd_same⟩ rfl rfl nz fun _ => b1.free nz hz
      · refine ⟨_, rfl, t, _, rfl, .inl ⟨SqL.of et, fun z hz => ?_⟩⟩
        have nz := hand_free h1 hz
        exact k _ z (.tup xs) (b1.trans (But.new hz)) (h1.new hz) ⟨z, rfl, upd_same⟩ rfl rfl nz fun e => by cases e
    | tup xs =>
      obtain ⟨t, rfl, et⟩ := i1
      have nth : t ≠ h := fun e => nv (by rw [e])
      refine ifD (fun c => ?_) (fun c => ?_)
      · refine ⟨_, rfl, t, _, rfl, .inr (SqT.of et), fun z hz => ?_⟩
        have nz := hand_free h1 hz
        exact k _ z (.lst xs) (b1.trans (But.new hz)) (h1.new hz) ⟨z, rfl, upd_same⟩ rfl rfl nz fun _ => b1.free nz hz
      · exact ⟨_, rfl, t, _, rfl, .inr ⟨SqT.of et, k _ t (.tup xs) b1 h1 ⟨t, rfl, et⟩ rfl rfl nth fun e => by cases e⟩⟩
end
end J

set_option Elab.async false
set_option linter.all false
set_option maxRecDepth 100000
set_option maxHeartbeats 4000000
namespace J
open PySem PySem.Spec PyProof.Rows L2
section
variable {P : Program} {w : World} {K : PySem.W.Frag} {mg : Str → Option Value} {base : Heap}
abbrev s_is_label : Stmt := top 13
theorem sc_is_label : FnScope ["thing"] ["thing"] (defScope s_is_label) := ⟨rfl, rfl, rfl, by decide +kernel, rfl, by decide +kernel, by decide +kernel⟩
def spLabel : Sp := fun vs H Q _ => ∃ (x : V) (s : Sh), vs = [x] ∧ Is H x s ∧ Q (.bl (wholeB x 0 1000000000)) H
theorem ok_is_label {f fW : Addr} {fd fdW : FuncData} (F : Fun K "is_label" "is_label" s_is_label f fd) (GW : Cal P w K mg base CX0 1 "is_whole" fW fdW ["thing", "low", "high"] spWhole) (mL : ∃ t, mg "MOST_LABEL" = some (.int 1000000000 t)) : FnOk P w K mg base CX0 2 f fd ["thing"] spLabel := by
  obtain ⟨t, mL⟩ := mL
  refine F.ok sc_is_label (fun vs H Q E h => ?_) (fun cdv A outer s H vs Q E hr h => ?_)
  · obtain ⟨x, s, rfl, _⟩ := h
    rfl
  · obtain ⟨x, sh, rfl, hx, k⟩ := h
    refine ⟨_, (pss_one 
  (ps_ret (pcal GW hr pass0 (pa_cons (pv 0) (pa_cons pe_int (pa_cons (pe_glob (v := .int 1000000000) rfl mL ⟨_, rfl⟩) pa_nil)))))), ?_⟩
    exact ⟨_, rfl, x, sh, 0, 1000000000, rfl, hx, k⟩
end
/-! ### an own error with two fields -/
abbrev s_BadCompany_init : Stmt := inClass (top 5) 0
theorem sc_BadCompany_init : FnScope ["self", "index", "what"] ["self", "index", "what"] (defScope s_BadCompany_init) := ⟨rfl, rfl, rfl, by decide +kernel, rfl, by decide +kernel, by decide +kernel⟩
section
variable {P : Program} {w : World} {K : PySem.W.Frag} {mg : Str → Option Value} {base : Heap}
theorem ok_BadCompany_init {f C : Addr} {fd : FuncData} (F : Fun K "__init__" "BadCompany.__init__" s_BadCompany_init f fd) (o : OexC K C) (no1 : PySem.W.findIn K (.ref C) "index" = some none) (no2 : PySem.W.findIn K (.ref C) "what" = some none) :
    FnOk P w K mg base CX0 1 f fd ["self", "index", "what"] (spXI2 C "index" "what") := by
  refine F.ok sc_BadCompany_init (fun vs H Q E h => ?_) (fun cdv A outer s H vs Q E hr h => ?_)
  · obtain ⟨x, s, u, rfl, _⟩ := h
    rfl
  · obtain ⟨a, v, u, rfl, ha, k⟩ := h
    refine ⟨_, pss_cons (ps_ost (pv 0) (pv 1)) (pss_one (ps_ost (pv 0) (pv 2))), ?_⟩
    refine ⟨_, rfl, _, rfl, a, C, rfl, o, no1, .inl ⟨ha, fun dx hdx ne => ?_⟩⟩
    refine ⟨_, rfl, _, rfl, a, C, rfl, o, no2, .inr ⟨dx, [("index", v)], upd_same, by rw [upd_ne ne, upd_same], (by show 1 ≤ 900; decide), ?_⟩⟩
    exact k dx hdx ne
end
/-! ### a row is judged -/
def rowW (m n : Nat) (s : Sh) : Option Str :=
  if (s.isL || s.isT) = true then
    if (items s).length = n then
      if ∀ x ∈ items s, wholeB x 0 ((m : Nat) - 1) = true then none else some "tie"
    else some "length"
  else some "row"
theorem rowW_row {m n : Nat} {s : Sh} (h : (s.isL || s.isT) = false) : rowW m n s = some ("row" : Str) := by
  unfold rowW
  rw [if_neg (by simp [h])]
theorem rowW_length {m n : Nat} {s : Sh} (h : (s.isL || s.isT) = true) (h2 : (items s).length ≠ n) : rowW m n s = some ("length" : Str) := by
  unfold rowW
  rw [if_pos h, if_neg h2]
theorem rowW_tie {m n : Nat} {s : Sh} {x : V} (h : (s.isL || s.isT) = true) (h2 : (items s).length = n) (hx : x ∈ items s) (e : wholeB x 0 ((m : Nat) - 1) = false) : rowW m n s = some ("tie" : Str) := by
  unfold rowW
  rw [if_pos h, if_pos h2, if_neg]
  intro q
  rw [q x hx] at e
  cases e
theorem rowW_none {m n : Nat} {s : Sh} (h : (s.isL || s.isT) = true) (h2 : (items s).length = n) (ha : ∀ x ∈ items s, wholeB x 0 ((m : Nat) - 1) = true) : rowW m n s = none := by
  unfold rowW
  rw [if_pos h, if_pos h2, if_pos ha]
abbrev s_check_row : Stmt := top 23
theorem sc_check_row : FnScope ["ties", "index", "row", "length", "tie"] ["ties", "index", "row", "length"] (defScope s_check_row) := ⟨rfl, rfl, rfl, by decide +kernel, rfl, by decide +kernel, by decide +kernel⟩
def spRow (C CB : Addr) : Sp := fun vs H Q E => ∃ (t : Addr) (ns : List Int) (j n : Nat) (x : V) (s : Sh), vs = [.ref t, .int (j : Nat), x, .int (n : Nat)] ∧ TiesAt C H t ns ∧ Is H x s ∧ Known H (items s) ∧
  (∀ u, rowW ns.length n s = some u → Tells2 H CB "index" "what" (.int (j : Nat)) (.str u) E) ∧ (rowW ns.length n s = none → ∀ H', Same H H' → Q .non H')
section
variable {P : Program} {w : World} {K : PySem.W.Frag} {mg : Str → Option Value} {base : Heap}
theorem ok_check_row {f C CB fS fH fI : Addr} {fd fdS fdH fdI : FuncData} (F : Fun K "_check_row" "_check_row" s_check_row f fd) (T : TiC K C) (nl : mg "len" = none)
    (GS : Cal P w K mg base CX0 1 "is_sequence" fS fdS ["thing"] spSeq) (GH : Mt P w K mg base CX0 2 C "has" fH fdH ["self", "thing"] (spHas C)) (GB : Ex2 P w K mg base "BadCompany" "index" "what" CB fI fdI ["self", "index", "what"]) :
    FnOk P w K mg base (L2.CX P w) 3 f fd ["ties", "index", "row", "length"] (spRow C CB) := by
  refine F.okX sc_check_row (fun vs H Q E h => ?_) (fun cdv A outer s H vs Q E hr h => ?_)
  · obtain ⟨t, ns, j, n, x, s, rfl, _⟩ := h
    rfl
  · obtain ⟨t, ns, j, n, x, sh, rfl, hT, hx, kn, k1, k2⟩ := h
    have hr2 : Room 2 _ := hr
    cases sh with
    | sc u =>
      refine ⟨_, (pss_cons 
  (ps_if (pt_not (pt_val (pcal GS hr pass0 (pa_cons (pv 2) pa_nil)))) (pss_one (ps_raise rfl (takes_of rfl rfl rfl rfl) (pmk_oex GB.o GB.i GB.t GB.F hr2 GB.b .nil pass0 rfl GB.m (pa_cons (pv 1) (pa_cons pe_str pa_nil))))) pss_nil) (pss_cons 
  (ps_if (pt_cmpR op_ne (pe_callB call_len_seq (by rfl) nl PySem.boot_len (pa_cons (pv 2) pa_nil)) (pv 3) (nomark _)) (pss_one (ps_raise rfl (takes_of rfl rfl rfl rfl) (pmk_oex GB.o GB.i GB.t GB.F hr2 GB.b .nil pass0 rfl GB.m (pa_cons (pv 1) (pa_cons pe_str pa_nil))))) pss_nil) (pss_one 
  (ps_for (passes_of rfl) rfl (pi_list (pv 2)) (pg_name (i := 4) sc_check_row.nd rfl (Or.inl rfl)) (pss_one 
    (ps_if (pt_not (pt_val (pe_meth (pv 0) T.cl GH.M GH.F hr2 GH.b .nil pass0 (pa_cons (pv 4) pa_nil)))) (pss_one (ps_raise rfl (takes_of rfl rfl rfl rfl) (pmk_oex GB.o GB.i GB.t GB.F hr2 GB.b .nil pass0 rfl GB.m (pa_cons (pv 1) (pa_cons pe_str pa_nil))))) pss_nil)))))), ?_⟩
      exact ⟨_, rfl, x, (.sc u), rfl, hx, fun H1 S1 => ⟨_, rfl, iteT ⟨_, rfl, mkO_of2 ((k1 "row" (rowW_row rfl)).mono S1)⟩⟩⟩
    | dk =>
      refine ⟨_, (pss_cons 
  (ps_if (pt_not (pt_val (pcal GS hr pass0 (pa_cons (pv 2) pa_nil)))) (pss_one (ps_raise rfl (takes_of rfl rfl rfl rfl) (pmk_oex GB.o GB.i GB.t GB.F hr2 GB.b .nil pass0 rfl GB.m (pa_cons (pv 1) (pa_cons pe_str pa_nil))))) pss_nil) (pss_cons 
  (ps_if (pt_cmpR op_ne (pe_callB call_len_seq (by rfl) nl PySem.boot_len (pa_cons (pv 2) pa_nil)) (pv 3) (nomark _)) (pss_one (ps_raise rfl (takes_of rfl rfl rfl rfl) (pmk_oex GB.o GB.i GB.t GB.F hr2 GB.b .nil pass0 rfl GB.m (pa_cons (pv 1) (pa_cons pe_str pa_nil))))) pss_nil) (pss_one 
  (ps_for (passes_of rfl) rfl (pi_list (pv 2)) (pg_name (i := 4) sc_check_row.nd rfl (Or.inl rfl)) (pss_one 
    (ps_if (pt_not (pt_val (pe_meth (pv 0) T.cl GH.M GH.F hr2 GH.b .nil pass0 (pa_cons (pv 4) pa_nil)))) (pss_one (ps_raise rfl (takes_of rfl rfl rfl rfl) (pmk_oex GB.o GB.i GB.t GB.F hr2 GB.b .nil pass0 rfl GB.m (pa_cons (pv 1) (pa_cons pe_str pa_nil))))) pss_nil)))))), ?_⟩
      exact ⟨_, rfl, x, .dk, rfl, hx, fun H1 S1 => ⟨_, rfl, iteT ⟨_, rfl, mkO_of2 ((k1 "row" (rowW_row rfl)).mono S1)⟩⟩⟩
    | lst xs =>
      obtain ⟨p, rfl, hp⟩ := hx
      refine ⟨_, (pss_cons 
  (ps_if (pt_not (pt_val (pcal GS hr pass0 (pa_cons (pv 2) pa_nil)))) (pss_one (ps_raise rfl (takes_of rfl rfl rfl rfl) (pmk_oex GB.o GB.i GB.t GB.F hr2 GB.b .nil pass0 rfl GB.m (pa_cons (pv 1) (pa_cons pe_str pa_nil))))) pss_nil) (pss_cons 
  (ps_if (pt_cmpR op_ne (pe_callB call_len_seq (by rfl) nl PySem.boot_len (pa_cons (pv 2) pa_nil)) (pv 3) (nomark _)) (pss_one (ps_raise rfl (takes_of rfl rfl rfl rfl) (pmk_oex GB.o GB.i GB.t GB.F hr2 GB.b .nil pass0 rfl GB.m (pa_cons (pv 1) (pa_cons pe_str pa_nil))))) pss_nil) (pss_one 
  (ps_for (passes_of rfl) rfl (pi_list (pv 2)) (pg_name (i := 4) sc_check_row.nd rfl (Or.inl rfl)) (pss_one 
    (ps_if (pt_not (pt_val (pe_meth (pv 0) T.cl GH.M GH.F hr2 GH.b .nil pass0 (pa_cons (pv 4) pa_nil)))) (pss_one (ps_raise rfl (takes_of rfl rfl rfl rfl) (pmk_oex GB.o GB.i GB.t GB.F hr2 GB.b .nil pass0 rfl GB.m (pa_cons (pv 1) (pa_cons pe_str pa_nil))))) pss_nil)))))), ?_⟩
      refine ⟨_, rfl, _, .lst xs, rfl, ⟨p, rfl, hp⟩, fun H1 S1 => ⟨_, rfl, iteF ?_⟩⟩
      have h1 := S1 _ _ hp
      have hT1 := hT.keep S1
      have kn1 : Known H1 xs := kn.keep S1
      obtain ⟨dx, tt, hx1, ht1⟩ := id hT1
      refine ⟨_, rfl, p, xs, rfl, .inl (SqL.of h1), _, rfl, rfl, _, rfl, ?_⟩
      by_cases c : xs.length = n
      case neg => exact if_tr (by simp; omega) ⟨_, rfl, mkO_of2 ((k1 "length" (rowW_length (s := .lst xs) rfl c)).mono S1)⟩
      refine if_fa (by simp [c]) ⟨_, rfl, p, rfl, ⟨_, SqL.of h1⟩, for_list (K := K) (a := p) (xs := xs) (fun i σ H' => ∃ v4 : Option V, σ = [some (.ref t), some (.int (j : Nat)), some (.ref p), some (.int (n : Nat)), v4] ∧ H' = H1 ∧ ∀ a y, a < i → xs[a]? = some y → wholeB y 0 ((ns.length : Nat) - 1) = true)
        ⟨none, rfl, rfl, fun a y ha => absurd ha (Nat.not_lt_zero a)⟩ (fun i σ H' _ ⟨_, _, e, _⟩ => by rw [e]; exact SqL.of h1) ?_ ?_⟩
      · rintro i y σ H' hy ⟨v4, rfl, rfl, hb⟩
        have hym := List.mem_of_getElem? hy
        obtain ⟨sy, isy⟩ := kn1 y hym
        refine ⟨_, rfl, t, dx, _, rfl, hx1, tf_no _ _ (by decide +kernel) (by decide +kernel), _, rfl, t, ns, y, sy, rfl, hT1, isy, _, rfl, ?_⟩
        cases e : tieB ns y with
        | true =>
          refine iteF ⟨_, rfl, rfl, fun a z ha hz => ?_⟩
          rcases Nat.lt_or_ge a i with hai | hai
          · exact hb a z hai hz
          · obtain rfl : a = i := by omega
            rw [hy] at hz
            rw [← Option.some.inj hz]
            exact e
        | false => exact iteT ⟨_, rfl, mkO_of2 ((k1 "tie" (rowW_tie (s := .lst xs) rfl c hym e)).mono S1)⟩
      · rintro σ H' ⟨v4, rfl, rfl, hb⟩
        refine k2 (rowW_none (s := .lst xs) rfl c fun y hy => ?_) _ S1
        obtain ⟨a, ha⟩ := List.getElem?_of_mem hy
        exact hb a y (List.getElem?_eq_some_iff.mp ha).1 ha
    | tup xs =>
      obtain ⟨p, rfl, hp⟩ := hx
      refine ⟨_, (pss_cons 
  (ps_if (pt_not (pt_val (pcal GS hr pass0 (pa_cons (pv 2) pa_nil)))) (pss_one (ps_raise rfl (takes_of rfl rfl rfl rfl) (pmk_oex GB.o GB.i GB.t GB.F hr2 GB.b .nil pass0 rfl GB.m (pa_cons (pv 1) (pa_cons pe_str pa_nil))))) pss_nil) (pss_cons 
  (ps_if (pt_cmpR op_ne (pe_callB call_len_seq (by rfl) nl PySem.boot_len (pa_cons (pv 2) pa_nil)) (pv 3) (nomark _)) (pss_one (ps_raise rfl (takes_of rfl rfl rfl rfl) (pmk_oex GB.o GB.i GB.t GB.F hr2 GB.b .nil pass0 rfl GB.m (pa_cons (pv 1) (pa_cons pe_str pa_nil))))) pss_nil) (pss_one 
  (ps_for (passes_of rfl) rfl (pi_tup (pv 2)) (pg_name (i := 4) sc_check_row.nd rfl (Or.inl rfl)) (pss_one 
    (ps_if (pt_not (pt_val (pe_meth (pv 0) T.cl GH.M GH.F hr2 GH.b .nil pass0 (pa_cons (pv 4) pa_nil)))) (pss_one (ps_raise rfl (takes_of rfl rfl rfl rfl) (pmk_oex GB.o GB.i GB.t GB.F hr2 GB.b .nil pass0 rfl GB.m (pa_cons (pv 1) (pa_cons pe_str pa_nil))))) pss_nil)))))), ?_⟩
      refine ⟨_, rfl, _, .tup xs, rfl, ⟨p, rfl, hp⟩, fun H1 S1 => ⟨_, rfl, iteF ?_⟩⟩
      have h1 := S1 _ _ hp
      have hT1 := hT.keep S1
      have kn1 : Known H1 xs := kn.keep S1
      obtain ⟨dx, tt, hx1, ht1⟩ := id hT1
      refine ⟨_, rfl, p, xs, rfl, .inr (SqT.of h1), _, rfl, rfl, _, rfl, ?_⟩
      by_cases c : xs.length = n
      case neg => exact if_tr (by simp; omega) ⟨_, rfl, mkO_of2 ((k1 "length" (rowW_length (s := .tup xs) rfl c)).mono S1)⟩
      refine if_fa (by simp [c]) ⟨_, rfl, p, rfl, ⟨_, SqT.of h1⟩, for_tup (K := K) (a := p) (xs := xs) (fun i σ H' => ∃ v4 : Option V, σ = [some (.ref t), some (.int (j : Nat)), some (.ref p), some (.int (n : Nat)), v4] ∧ H' = H1 ∧ ∀ a y, a < i → xs[a]? = some y → wholeB y 0 ((ns.length : Nat) - 1) = true)
        ⟨none, rfl, rfl, fun a y ha => absurd ha (Nat.not_lt_zero a)⟩ (fun i σ H' _ ⟨_, _, e, _⟩ => by rw [e]; exact SqT.of h1) ?_ ?_⟩
      · rintro i y σ H' hy ⟨v4, rfl, rfl, hb⟩
        have hym := List.mem_of_getElem? hy
        obtain ⟨sy, isy⟩ := kn1 y hym
        refine ⟨_, rfl, t, dx, _, rfl, hx1, tf_no _ _ (by decide +kernel) (by decide +kernel), _, rfl, t, ns, y, sy, rfl, hT1, isy, _, rfl, ?_⟩
        cases e : tieB ns y with
        | true =>
          refine iteF ⟨_, rfl, rfl, fun a z ha hz => ?_⟩
          rcases Nat.lt_or_ge a i with hai | hai
          · exact hb a z hai hz
          · obtain rfl : a = i := by omega
            rw [hy] at hz
            rw [← Option.some.inj hz]
            exact e
        | false => exact iteT ⟨_, rfl, mkO_of2 ((k1 "tie" (rowW_tie (s := .tup xs) rfl c hym e)).mono S1)⟩
      · rintro σ H' ⟨v4, rfl, rfl, hb⟩
        refine k2 (rowW_none (s := .tup xs) rfl c fun y hy => ?_) _ S1
        obtain ⟨a, ha⟩ := List.getElem?_of_mem hy
        exact hb a y (List.getElem?_eq_some_iff.mp ha).1 ha
end
end J

set_option Elab.async false
set_option linter.all false
set_option maxRecDepth 100000
set_option maxHeartbeats 4000000
namespace J
open PySem PySem.Spec PyProof.Rows L2
/-! ### a company is judged -/
/-- the first place at which a word is due -/
def scan (f : Nat → Option Str) : Nat → Option (Nat × Str)
  | 0 => none
  | n + 1 => match scan f n with
    | some r => some r
    | none => (f n).map fun w => (n, w)
theorem scan_none {f : Nat → Option Str} : ∀ {n : Nat}, (∀ j, j < n → f j = none) → scan f n = none
  | 0, _ => rfl
  | n + 1, h => by
    have ih := scan_none (n := n) fun j hj => h j (by omega)
    show (match scan f n with | some r => some r | none => (f n).map fun w => (n, w)) = none
    rw [ih, h n (by omega)]
    rfl
theorem scan_some {f : Nat → Option Str} {j : Nat} {w : Str} (h : ∀ i, i < j → f i = none) (e : f j = some w) : ∀ {n : Nat}, j < n → scan f n = some (j, w)
  | 0, hj => absurd hj (Nat.not_lt_zero j)
  | n + 1, hj => by
    show (match scan f n with | some r => some r | none => (f n).map fun w => (n, w)) = some (j, w)
    rcases Nat.lt_or_ge j n with hl | hl
    · rw [scan_some h e hl]
    · obtain rfl : j = n := by omega
      rw [scan_none h, e]
      rfl
/-- the word due at place j of the guests -/
def ordB (gs : List V) (j : Nat) : Bool := match gs[j - 1]?, gs[j]? with
  | some (.int a), some (.int b) => decide (0 < j) && decide (b ≤ a)
  | _, _ => false
def wordC (m : Nat) (gs : List V) (ss : List Sh) (j : Nat) : Option Str :=
  match gs[j]? with
  | none => none
  | some x =>
    if wholeB x 0 1000000000 = true then
      if ordB gs j = true then some "order"
      else match ss[j]? with
        | none => some "row"
        | some s => rowW m j s
    else some "label"
def dueC (m : Nat) (g r : Sh) (ss : List Sh) : Option (Int × Str) :=
  if ((g.isL || g.isT) && (r.isL || r.isT)) = true then
    if (items g).length ≤ 60 then
      match scan (wordC m (items g) ss) (items g).length with
      | some (j, w) => some ((j : Nat), w)
      | none => if (items g).length < (items r).length then some (((items g).length : Nat), "rows") else none
    else some (60, "many")
  else some (0, "sequence")
/-- the shapes of the rows -/
theorem due_seq {m : Nat} {g r : Sh} {ss : List Sh} (h : ((g.isL || g.isT) && (r.isL || r.isT)) = false) : dueC m g r ss = some ((0 : Int), ("sequence" : Str)) := by
  unfold dueC
  rw [if_neg (by simp [h])]
theorem due_many {m : Nat} {g r : Sh} {ss : List Sh} (h : ((g.isL || g.isT) && (r.isL || r.isT)) = true) (h2 : 60 < (items g).length) : dueC m g r ss = some ((60 : Int), ("many" : Str)) := by
  unfold dueC
  rw [if_pos h, if_neg (by omega)]
theorem due_word {m : Nat} {g r : Sh} {ss : List Sh} {j : Nat} {u : Str} (h : ((g.isL || g.isT) && (r.isL || r.isT)) = true) (h2 : (items g).length ≤ 60) (hb : ∀ i, i < j → wordC m (items g) ss i = none) (e : wordC m (items g) ss j = some u) (hj : j < (items g).length) :
    dueC m g r ss = some (((j : Nat) : Int), u) := by
  unfold dueC
  rw [if_pos h, if_pos h2, scan_some hb e hj]
theorem due_rows {m : Nat} {g r : Sh} {ss : List Sh} (h : ((g.isL || g.isT) && (r.isL || r.isT)) = true) (h2 : (items g).length ≤ 60) (hb : ∀ i, i < (items g).length → wordC m (items g) ss i = none) (h3 : (items g).length < (items r).length) :
    dueC m g r ss = some ((((items g).length : Nat) : Int), ("rows" : Str)) := by
  unfold dueC
  rw [if_pos h, if_pos h2, scan_none hb]
  show (if (items g).length < (items r).length then _ else _) = _
  rw [if_pos h3]
theorem due_ok {m : Nat} {g r : Sh} {ss : List Sh} (h : ((g.isL || g.isT) && (r.isL || r.isT)) = true) (h2 : (items g).length ≤ 60) (hb : ∀ i, i < (items g).length → wordC m (items g) ss i = none) (h3 : ¬ (items g).length < (items r).length) : dueC m g r ss = none := by
  unfold dueC
  rw [if_pos h, if_pos h2, scan_none hb]
  show (if (items g).length < (items r).length then _ else _) = _
  rw [if_neg h3]
theorem word_label {m j : Nat} {gs : List V} {ss : List Sh} {x : V} (h : gs[j]? = some x) (e : wholeB x 0 1000000000 = false) : wordC m gs ss j = some ("label" : Str) := by
  unfold wordC
  rw [h]
  show (if wholeB x 0 1000000000 = true then _ else _) = _
  rw [if_neg (by simp [e])]
theorem word_order {m j : Nat} {gs : List V} {ss : List Sh} {x : V} (h : gs[j]? = some x) (e : wholeB x 0 1000000000 = true) (o : ordB gs j = true) : wordC m gs ss j = some ("order" : Str) := by
  unfold wordC
  rw [h]
  show (if wholeB x 0 1000000000 = true then _ else _) = _
  rw [if_pos e, if_pos o]
theorem word_norow {m j : Nat} {gs : List V} {ss : List Sh} {x : V} (h : gs[j]? = some x) (e : wholeB x 0 1000000000 = true) (o : ordB gs j = false) (n : ss[j]? = none) : wordC m gs ss j = some ("row" : Str) := by
  unfold wordC
  rw [h]
  show (if wholeB x 0 1000000000 = true then _ else _) = _
  rw [if_pos e, if_neg (by simp [o]), n]
theorem word_row {m j : Nat} {gs : List V} {ss : List Sh} {x : V} {s : Sh} (h : gs[j]? = some x) (e : wholeB x 0 1000000000 = true) (o : ordB gs j = false) (n : ss[j]? = some s) : wordC m gs ss j = rowW m j s := by
  unfold wordC
  rw [h]
  show (if wholeB x 0 1000000000 = true then _ else _) = _
  rw [if_pos e, if_neg (by simp [o]), n]
theorem ord_ints {gs : List V} {j : Nat} {a b : Int} (h1 : gs[j]? = some (.int a)) (h2 : gs[j + 1]? = some (.int b)) : ordB gs (j + 1) = decide (b ≤ a) := by
  unfold ordB
  rw [show j + 1 - 1 = j by omega, h1, h2]
  show (decide (0 < j + 1) && decide (b ≤ a)) = _
  rw [decide_eq_true (by omega), Bool.true_and]
theorem ord_zero {gs : List V} : ordB gs 0 = false := by
  unfold ordB
  split
  · rfl
  · rfl
abbrev s_check_company : Stmt := top 22
theorem sc_check_company : FnScope ["ties", "guests", "rows", "index", "label"] ["ties", "guests", "rows"] (defScope s_check_company) := ⟨rfl, rfl, rfl, by decide +kernel, rfl, by decide +kernel, by decide +kernel⟩
def spCC (C CB : Addr) : Sp := fun vs H Q E => ∃ (t : Addr) (ns : List Int) (g r : V) (sg sr : Sh) (ss : List Sh), vs = [.ref t, g, r] ∧ TiesAt C H t ns ∧ Is H g sg ∧ Known H (items sg) ∧ Is H r sr ∧ ShAll H (items sr) ss ∧ (items sg).length ≤ 1000 ∧
  (∀ i u, dueC ns.length sg sr ss = some (i, u) → Tells2 H CB "index" "what" (.int i) (.str u) E) ∧ (dueC ns.length sg sr ss = none → ∀ H', Same H H' → Q .non H')
section
variable {P : Program} {w : World} {K : PySem.W.Frag} {mg : Str → Option Value} {base : Heap}
theorem ok_check_company {f C CB fS fL fR fI : Addr} {fd fdS fdL fdR fdI : FuncData} (F : Fun K "_check_company" "_check_company" s_check_company f fd) (nl : mg "len" = none) (ne : mg "enumerate" = none) (mG : ∃ t, mg "MOST_GUESTS" = some (.int 60 t))
    (GS : Cal P w K mg base CX0 1 "is_sequence" fS fdS ["thing"] spSeq) (GL : Cal P w K mg base CX0 2 "is_label" fL fdL ["thing"] spLabel) (GR : Cal P w K mg base (L2.CX P w) 3 "_check_row" fR fdR ["ties", "index", "row", "length"] (spRow C CB)) (GB : Ex2 P w K mg base "BadCompany" "index" "what" CB fI fdI ["self", "index", "what"]) :
    FnOk P w K mg base (L2.CX P w) 4 f fd ["ties", "guests", "rows"] (spCC C CB) := by
  obtain ⟨tG, mG⟩ := mG
  refine F.okX sc_check_company (fun vs H Q E h => ?_) (fun cdv A outer s H vs Q E hr h => ?_)
  · obtain ⟨t, ns, g, r, sg, sr, ss, rfl, _⟩ := h
    rfl
  · obtain ⟨t, ns, g, r, sg, sr, ss, rfl, hT, hg, kg, hrr, hs, lg, k1, k2⟩ := h
    have hr2 : Room 2 _ := hr.mono (by decide)
    cases sg with
    | sc u =>
      refine ⟨_, (pss_cons 
  (ps_if (PW.pt (pw_or (pt_not (pt_val (pcal GS hr pass0 (pa_cons (pv 1) pa_nil)))) (pw_or1 (pt_not (pt_val (pcal GS hr pass0 (pa_cons (pv 2) pa_nil))))))) (pss_one (ps_raise rfl (takes_of rfl rfl rfl rfl) (pmk_oex GB.o GB.i GB.t GB.F hr2 GB.b .nil pass0 rfl GB.m (pa_cons pe_int (pa_cons pe_str pa_nil))))) pss_nil) (pss_cons 
  (ps_if (pt_cmpR op_gt (pe_callB call_len_seq (by rfl) nl PySem.boot_len (pa_cons (pv 1) pa_nil)) (pe_glob (v := .int 60) rfl mG ⟨_, rfl⟩) (nomark _)) (pss_one (ps_raise rfl (takes_of rfl rfl rfl rfl) (pmk_oex GB.o GB.i GB.t GB.F hr2 GB.b .nil pass0 rfl GB.m (pa_cons (pe_glob (v := .int 60) rfl mG ⟨_, rfl⟩) (pa_cons pe_str pa_nil))))) pss_nil) (pss_cons 
  (ps_for (passes_of rfl) rfl (pi_enum (by rfl) ne (pa_cons (pv 1) pa_nil)) (pg_tup (by rfl) (pgs_cons (pg_name (i := 3) sc_check_company.nd rfl (Or.inl rfl)) (pgs_cons (pg_name (i := 4) sc_check_company.nd rfl (Or.inl rfl)) pgs_nil))) (pss_cons 
    (ps_if (pt_not (pt_val (pcal GL hr pass0 (pa_cons (pv 4) pa_nil)))) (pss_one (ps_raise rfl (takes_of rfl rfl rfl rfl) (pmk_oex GB.o GB.i GB.t GB.F hr2 GB.b .nil pass0 rfl GB.m (pa_cons (pv 3) (pa_cons pe_str pa_nil))))) pss_nil) (pss_cons 
    (ps_if (PW.pt (pw_and (pt_cmpR op_gt (pv 3) pe_int (nomark _)) (pw_and1 (pt_cmpR op_le (pv 4) (pe_ix ix_list (pv 1) (pe_op op_sub (pv 3) pe_int) (fun _ _ => rfl)) (nomark _))))) (pss_one (ps_raise rfl (takes_of rfl rfl rfl rfl) (pmk_oex GB.o GB.i GB.t GB.F hr2 GB.b .nil pass0 rfl GB.m (pa_cons (pv 3) (pa_cons pe_str pa_nil))))) pss_nil) (pss_cons 
    (ps_if (pt_cmpR op_ge (pv 3) (pe_callB call_len_seq (by rfl) nl PySem.boot_len (pa_cons (pv 2) pa_nil)) (nomark _)) (pss_one (ps_raise rfl (takes_of rfl rfl rfl rfl) (pmk_oex GB.o GB.i GB.t GB.F hr2 GB.b .nil pass0 rfl GB.m (pa_cons (pv 3) (pa_cons pe_str pa_nil))))) pss_nil) (pss_one 
    (ps_expr (pcal GR hr (passes_call (takes_of rfl rfl rfl rfl) (fun _ _ _ _ h => h)) (pa_cons (pv 0) (pa_cons (pv 3) (pa_cons (pe_ix ix_list (pv 2) (pv 3) (fun _ _ => rfl)) (pa_cons (pv 3) pa_nil))))))))))) (pss_one 
  (ps_if (pt_cmpR op_gt (pe_callB call_len_seq (by rfl) nl PySem.boot_len (pa_cons (pv 2) pa_nil)) (pe_callB call_len_seq (by rfl) nl PySem.boot_len (pa_cons (pv 1) pa_nil)) (nomark _)) (pss_one (ps_raise rfl (takes_of rfl rfl rfl rfl) (pmk_oex GB.o GB.i GB.t GB.F hr2 GB.b .nil pass0 rfl GB.m (pa_cons (pe_callB call_len_seq (by rfl) nl PySem.boot_len (pa_cons (pv 1) pa_nil)) (pa_cons pe_str pa_nil))))) pss_nil))))), ?_⟩
      exact ⟨_, rfl, g, (.sc u), rfl, hg, fun H1 S1 => ⟨_, rfl, iteT (iteT (mkO_of2 ((k1 0 "sequence" (due_seq rfl)).mono S1)))⟩⟩
    | dk =>
      refine ⟨_, (pss_cons 
  (ps_if (PW.pt (pw_or (pt_not (pt_val (pcal GS hr pass0 (pa_cons (pv 1) pa_nil)))) (pw_or1 (pt_not (pt_val (pcal GS hr pass0 (pa_cons (pv 2) pa_nil))))))) (pss_one (ps_raise rfl (takes_of rfl rfl rfl rfl) (pmk_oex GB.o GB.i GB.t GB.F hr2 GB.b .nil pass0 rfl GB.m (pa_cons pe_int (pa_cons pe_str pa_nil))))) pss_nil) (pss_cons 
  (ps_if (pt_cmpR op_gt (pe_callB call_len_seq (by rfl) nl PySem.boot_len (pa_cons (pv 1) pa_nil)) (pe_glob (v := .int 60) rfl mG ⟨_, rfl⟩) (nomark _)) (pss_one (ps_raise rfl (takes_of rfl rfl rfl rfl) (pmk_oex GB.o GB.i GB.t GB.F hr2 GB.b .nil pass0 rfl GB.m (pa_cons (pe_glob (v := .int 60) rfl mG ⟨_, rfl⟩) (pa_cons pe_str pa_nil))))) pss_nil) (pss_cons 
  (ps_for (passes_of rfl) rfl (pi_enum (by rfl) ne (pa_cons (pv 1) pa_nil)) (pg_tup (by rfl) (pgs_cons (pg_name (i := 3) sc_check_company.nd rfl (Or.inl rfl)) (pgs_cons (pg_name (i := 4) sc_check_company.nd rfl (Or.inl rfl)) pgs_nil))) (pss_cons 
    (ps_if (pt_not (pt_val (pcal GL hr pass0 (pa_cons (pv 4) pa_nil)))) (pss_one (ps_raise rfl (takes_of rfl rfl rfl rfl) (pmk_oex GB.o GB.i GB.t GB.F hr2 GB.b .nil pass0 rfl GB.m (pa_cons (pv 3) (pa_cons pe_str pa_nil))))) pss_nil) (pss_cons 
    (ps_if (PW.pt (pw_and (pt_cmpR op_gt (pv 3) pe_int (nomark _)) (pw_and1 (pt_cmpR op_le (pv 4) (pe_ix ix_list (pv 1) (pe_op op_sub (pv 3) pe_int) (fun _ _ => rfl)) (nomark _))))) (pss_one (ps_raise rfl (takes_of rfl rfl rfl rfl) (pmk_oex GB.o GB.i GB.t GB.F hr2 GB.b .nil pass0 rfl GB.m (pa_cons (pv 3) (pa_cons pe_str pa_nil))))) pss_nil) (pss_cons 
    (ps_if (pt_cmpR op_ge (pv 3) (pe_callB call_len_seq (by rfl) nl PySem.boot_len (pa_cons (pv 2) pa_nil)) (nomark _)) (pss_one (ps_raise rfl (takes_of rfl rfl rfl rfl) (pmk_oex GB.o GB.i GB.t GB.F hr2 GB.b .nil pass0 rfl GB.m (pa_cons (pv 3) (pa_cons pe_str pa_nil))))) pss_nil) (pss_one 
    (ps_expr (pcal GR hr (passes_call (takes_of rfl rfl rfl rfl) (fun _ _ _ _ h => h)) (pa_cons (pv 0) (pa_cons (pv 3) (pa_cons (pe_ix ix_list (pv 2) (pv 3) (fun _ _ => rfl)) (pa_cons (pv 3) pa_nil))))))))))) (pss_one 
  (ps_if (pt_cmpR op_gt (pe_callB call_len_seq (by rfl) nl PySem.boot_len (pa_cons (pv 2) pa_nil)) (pe_callB call_len_seq (by rfl) nl PySem.boot_len (pa_cons (pv 1) pa_nil)) (nomark _)) (pss_one (ps_raise rfl (takes_of rfl rfl rfl rfl) (pmk_oex GB.o GB.i GB.t GB.F hr2 GB.b .nil pass0 rfl GB.m (pa_cons (pe_callB call_len_seq (by rfl) nl PySem.boot_len (pa_cons (pv 1) pa_nil)) (pa_cons pe_str pa_nil))))) pss_nil))))), ?_⟩
      exact ⟨_, rfl, g, .dk, rfl, hg, fun H1 S1 => ⟨_, rfl, iteT (iteT (mkO_of2 ((k1 0 "sequence" (due_seq rfl)).mono S1)))⟩⟩
    | lst gs =>
      cases sr with
      | sc u =>
        obtain ⟨pg, rfl, hp⟩ := hg
        refine ⟨_, (pss_cons 
    (ps_if (PW.pt (pw_or (pt_not (pt_val (pcal GS hr pass0 (pa_cons (pv 1) pa_nil)))) (pw_or1 (pt_not (pt_val (pcal GS hr pass0 (pa_cons (pv 2) pa_nil))))))) (pss_one (ps_raise rfl (takes_of rfl rfl rfl rfl) (pmk_oex GB.o GB.i GB.t GB.F hr2 GB.b .nil pass0 rfl GB.m (pa_cons pe_int (pa_cons pe_str pa_nil))))) pss_nil) (pss_cons 
    (ps_if (pt_cmpR op_gt (pe_callB call_len_seq (by rfl) nl PySem.boot_len (pa_cons (pv 1) pa_nil)) (pe_glob (v := .int 60) rfl mG ⟨_, rfl⟩) (nomark _)) (pss_one (ps_raise rfl (takes_of rfl rfl rfl rfl) (pmk_oex GB.o GB.i GB.t GB.F hr2 GB.b .nil pass0 rfl GB.m (pa_cons (pe_glob (v := .int 60) rfl mG ⟨_, rfl⟩) (pa_cons pe_str pa_nil))))) pss_nil) (pss_cons 
    (ps_for (passes_of rfl) rfl (pi_enum (by rfl) ne (pa_cons (pv 1) pa_nil)) (pg_tup (by rfl) (pgs_cons (pg_name (i := 3) sc_check_company.nd rfl (Or.inl rfl)) (pgs_cons (pg_name (i := 4) sc_check_company.nd rfl (Or.inl rfl)) pgs_nil))) (pss_cons 
      (ps_if (pt_not (pt_val (pcal GL hr pass0 (pa_cons (pv 4) pa_nil)))) (pss_one (ps_raise rfl (takes_of rfl rfl rfl rfl) (pmk_oex GB.o GB.i GB.t GB.F hr2 GB.b .nil pass0 rfl GB.m (pa_cons (pv 3) (pa_cons pe_str pa_nil))))) pss_nil) (pss_cons 
      (ps_if (PW.pt (pw_and (pt_cmpR op_gt (pv 3) pe_int (nomark _)) (pw_and1 (pt_cmpR op_le (pv 4) (pe_ix ix_list (pv 1) (pe_op op_sub (pv 3) pe_int) (fun _ _ => rfl)) (nomark _))))) (pss_one (ps_raise rfl (takes_of rfl rfl rfl rfl) (pmk_oex GB.o GB.i GB.t GB.F hr2 GB.b .nil pass0 rfl GB.m (pa_cons (pv 3) (pa_cons pe_str pa_nil))))) pss_nil) (pss_cons 
      (ps_if (pt_cmpR op_ge (pv 3) (pe_callB call_len_seq (by rfl) nl PySem.boot_len (pa_cons (pv 2) pa_nil)) (nomark _)) (pss_one (ps_raise rfl (takes_of rfl rfl rfl rfl) (pmk_oex GB.o GB.i GB.t GB.F hr2 GB.b .nil pass0 rfl GB.m (pa_cons (pv 3) (pa_cons pe_str pa_nil))))) pss_nil) (pss_one 
      (ps_expr (pcal GR hr (passes_call (takes_of rfl rfl rfl rfl) (fun _ _ _ _ h => h)) (pa_cons (pv 0) (pa_cons (pv 3) (pa_cons (pe_ix ix_list (pv 2) (pv 3) (fun _ _ => rfl)) (pa_cons (pv 3) pa_nil))))))))))) (pss_one 
    (ps_if (pt_cmpR op_gt (pe_callB call_len_seq (by rfl) nl PySem.boot_len (pa_cons (pv 2) pa_nil)) (pe_callB call_len_seq (by rfl) nl PySem.boot_len (pa_cons (pv 1) pa_nil)) (nomark _)) (pss_one (ps_raise rfl (takes_of rfl rfl rfl rfl) (pmk_oex GB.o GB.i GB.t GB.F hr2 GB.b .nil pass0 rfl GB.m (pa_cons (pe_callB call_len_seq (by rfl) nl PySem.boot_len (pa_cons (pv 1) pa_nil)) (pa_cons pe_str pa_nil))))) pss_nil))))), ?_⟩
        exact ⟨_, rfl, _, Sh.lst gs, rfl, ⟨pg, rfl, hp⟩, fun H1 S1 => ⟨_, rfl, iteF ⟨_, rfl, r, (.sc u), rfl, hrr.keep S1, fun H2 S2 => ⟨_, rfl, iteT (mkO_of2 ((k1 0 "sequence" (due_seq rfl)).mono (S1.trans S2)))⟩⟩⟩⟩
      | dk =>
        obtain ⟨pg, rfl, hp⟩ := hg
        refine ⟨_, (pss_cons 
    (ps_if (PW.pt (pw_or (pt_not (pt_val (pcal GS hr pass0 (pa_cons (pv 1) pa_nil)))) (pw_or1 (pt_not (pt_val (pcal GS hr pass0 (pa_cons (pv 2) pa_nil))))))) (pss_one (ps_raise rfl (takes_of rfl rfl rfl rfl) (pmk_oex GB.o GB.i GB.t GB.F hr2 GB.b .nil pass0 rfl GB.m (pa_cons pe_int (pa_cons pe_str pa_nil))))) pss_nil) (pss_cons 
    (ps_if (pt_cmpR op_gt (pe_callB call_len_seq (by rfl) nl PySem.boot_len (pa_cons (pv 1) pa_nil)) (pe_glob (v := .int 60) rfl mG ⟨_, rfl⟩) (nomark _)) (pss_one (ps_raise rfl (takes_of rfl rfl rfl rfl) (pmk_oex GB.o GB.i GB.t GB.F hr2 GB.b .nil pass0 rfl GB.m (pa_cons (pe_glob (v := .int 60) rfl mG ⟨_, rfl⟩) (pa_cons pe_str pa_nil))))) pss_nil) (pss_cons 
    (ps_for (passes_of rfl) rfl (pi_enum (by rfl) ne (pa_cons (pv 1) pa_nil)) (pg_tup (by rfl) (pgs_cons (pg_name (i := 3) sc_check_company.nd rfl (Or.inl rfl)) (pgs_cons (pg_name (i := 4) sc_check_company.nd rfl (Or.inl rfl)) pgs_nil))) (pss_cons 
      (ps_if (pt_not (pt_val (pcal GL hr pass0 (pa_cons (pv 4) pa_nil)))) (pss_one (ps_raise rfl (takes_of rfl rfl rfl rfl) (pmk_oex GB.o GB.i GB.t GB.F hr2 GB.b .nil pass0 rfl GB.m (pa_cons (pv 3) (pa_cons pe_str pa_nil))))) pss_nil) (pss_cons 
      (ps_if (PW.pt (pw_and (pt_cmpR op_gt (pv 3) pe_int (nomark _)) (pw_and1 (pt_cmpR op_le (pv 4) (pe_ix ix_list (pv 1) (pe_op op_sub (pv 3) pe_int) (fun _ _ => rfl)) (nomark _))))) (pss_one (ps_raise rfl (takes_of rfl rfl rfl rfl) (pmk_oex GB.o GB.i GB.t GB.F hr2 GB.b .nil pass0 rfl GB.m (pa_cons (pv 3) (pa_cons pe_str pa_nil))))) pss_nil) (pss_cons 
      (ps_if (pt_cmpR op_ge (pv 3) (pe_callB call_len_seq (by rfl) nl PySem.boot_len (pa_cons (pv 2) pa_nil)) (nomark _)) (pss_one (ps_raise rfl (takes_of rfl rfl rfl rfl) (pmk_oex GB.o GB.i GB.t GB.F hr2 GB.b .nil pass0 rfl GB.m (pa_cons (pv 3) (pa_cons pe_str pa_nil))))) pss_nil) (pss_one 
      (ps_expr (pcal GR hr (passes_call (takes_of rfl rfl rfl rfl) (fun _ _ _ _ h => h)) (pa_cons (pv 0) (pa_cons (pv 3) (pa_cons (pe_ix ix_list (pv 2) (pv 3) (fun _ _ => rfl)) (pa_cons (pv 3) pa_nil))))))))))) (pss_one 
    (ps_if (pt_cmpR op_gt (pe_callB call_len_seq (by rfl) nl PySem.boot_len (pa_cons (pv 2) pa_nil)) (pe_callB call_len_seq (by rfl) nl PySem.boot_len (pa_cons (pv 1) pa_nil)) (nomark _)) (pss_one (ps_raise rfl (takes_of rfl rfl rfl rfl) (pmk_oex GB.o GB.i GB.t GB.F hr2 GB.b .nil pass0 rfl GB.m (pa_cons (pe_callB call_len_seq (by rfl) nl PySem.boot_len (pa_cons (pv 1) pa_nil)) (pa_cons pe_str pa_nil))))) pss_nil))))), ?_⟩
        exact ⟨_, rfl, _, Sh.lst gs, rfl, ⟨pg, rfl, hp⟩, fun H1 S1 => ⟨_, rfl, iteF ⟨_, rfl, r, .dk, rfl, hrr.keep S1, fun H2 S2 => ⟨_, rfl, iteT (mkO_of2 ((k1 0 "sequence" (due_seq rfl)).mono (S1.trans S2)))⟩⟩⟩⟩
      | lst rs =>
        obtain ⟨pg, rfl, hp⟩ := hg
        obtain ⟨pr, rfl, hq⟩ := hrr
        have both : (((Sh.lst gs).isL || (Sh.lst gs).isT) && ((Sh.lst rs).isL || (Sh.lst rs).isT)) = true := rfl
        refine ⟨_, (pss_cons 
    (ps_if (PW.pt (pw_or (pt_not (pt_val (pcal GS hr pass0 (pa_cons (pv 1) pa_nil)))) (pw_or1 (pt_not (pt_val (pcal GS hr pass0 (pa_cons (pv 2) pa_nil))))))) (pss_one (ps_raise rfl (takes_of rfl rfl rfl rfl) (pmk_oex GB.o GB.i GB.t GB.F hr2 GB.b .nil pass0 rfl GB.m (pa_cons pe_int (pa_cons pe_str pa_nil))))) pss_nil) (pss_cons 
    (ps_if (pt_cmpR op_gt (pe_callB call_len_seq (by rfl) nl PySem.boot_len (pa_cons (pv 1) pa_nil)) (pe_glob (v := .int 60) rfl mG ⟨_, rfl⟩) (nomark _)) (pss_one (ps_raise rfl (takes_of rfl rfl rfl rfl) (pmk_oex GB.o GB.i GB.t GB.F hr2 GB.b .nil pass0 rfl GB.m (pa_cons (pe_glob (v := .int 60) rfl mG ⟨_, rfl⟩) (pa_cons pe_str pa_nil))))) pss_nil) (pss_cons 
    (ps_for (passes_of rfl) rfl (pi_enum (by rfl) ne (pa_cons (pv 1) pa_nil)) (pg_tup (by rfl) (pgs_cons (pg_name (i := 3) sc_check_company.nd rfl (Or.inl rfl)) (pgs_cons (pg_name (i := 4) sc_check_company.nd rfl (Or.inl rfl)) pgs_nil))) (pss_cons 
      (ps_if (pt_not (pt_val (pcal GL hr pass0 (pa_cons (pv 4) pa_nil)))) (pss_one (ps_raise rfl (takes_of rfl rfl rfl rfl) (pmk_oex GB.o GB.i GB.t GB.F hr2 GB.b .nil pass0 rfl GB.m (pa_cons (pv 3) (pa_cons pe_str pa_nil))))) pss_nil) (pss_cons 
      (ps_if (PW.pt (pw_and (pt_cmpR op_gt (pv 3) pe_int (nomark _)) (pw_and1 (pt_cmpR op_le (pv 4) (pe_ix ix_list (pv 1) (pe_op op_sub (pv 3) pe_int) (fun _ _ => rfl)) (nomark _))))) (pss_one (ps_raise rfl (takes_of rfl rfl rfl rfl) (pmk_oex GB.o GB.i GB.t GB.F hr2 GB.b .nil pass0 rfl GB.m (pa_cons (pv 3) (pa_cons pe_str pa_nil))))) pss_nil) (pss_cons 
      (ps_if (pt_cmpR op_ge (pv 3) (pe_callB call_len_seq (by rfl) nl PySem.boot_len (pa_cons (pv 2) pa_nil)) (nomark _)) (pss_one (ps_raise rfl (takes_of rfl rfl rfl rfl) (pmk_oex GB.o GB.i GB.t GB.F hr2 GB.b .nil pass0 rfl GB.m (pa_cons (pv 3) (pa_cons pe_str pa_nil))))) pss_nil) (pss_one 
      (ps_expr (pcal GR hr (passes_call (takes_of rfl rfl rfl rfl) (fun _ _ _ _ h => h)) (pa_cons (pv 0) (pa_cons (pv 3) (pa_cons (pe_ix ix_list (pv 2) (pv 3) (fun _ _ => rfl)) (pa_cons (pv 3) pa_nil))))))))))) (pss_one 
    (ps_if (pt_cmpR op_gt (pe_callB call_len_seq (by rfl) nl PySem.boot_len (pa_cons (pv 2) pa_nil)) (pe_callB call_len_seq (by rfl) nl PySem.boot_len (pa_cons (pv 1) pa_nil)) (nomark _)) (pss_one (ps_raise rfl (takes_of rfl rfl rfl rfl) (pmk_oex GB.o GB.i GB.t GB.F hr2 GB.b .nil pass0 rfl GB.m (pa_cons (pe_callB call_len_seq (by rfl) nl PySem.boot_len (pa_cons (pv 1) pa_nil)) (pa_cons pe_str pa_nil))))) pss_nil))))), ?_⟩
        refine ⟨_, rfl, _, Sh.lst gs, rfl, ⟨pg, rfl, hp⟩, fun H1 S1 => ⟨_, rfl, iteF ⟨_, rfl, _, Sh.lst rs, rfl, ⟨pr, rfl, S1 _ _ hq⟩, fun H2 S2' => ⟨_, rfl, iteF ?_⟩⟩⟩⟩
        have S2 := S1.trans S2'
        have eg := S2 _ _ hp
        have er := S2 _ _ hq
        refine ⟨_, rfl, pg, gs, rfl, .inl (SqL.of eg), _, _, rfl, rfl, _, rfl, ?_⟩
        refine ifD (fun c => mkO_of2 ((k1 60 "many" (due_many both (by show 60 < gs.length; omega))).mono S2)) (fun c => ?_)
        have c60 : gs.length ≤ 60 := by omega
        have rl : rs.length = ss.length := hs.len
        refine ⟨_, rfl, pg, gs, rfl, SqL.of eg, for_enum (K := K) (a := pg) (xs := gs) (fun i σ H' => ∃ v3 v4 : Option V, σ = [some (.ref t), some (.ref pg), some (.ref pr), v3, v4] ∧ Same H2 H' ∧ ∀ a, a < i → wordC ns.length gs ss a = none)
          ⟨none, none, rfl, Same.refl _, fun a ha => absurd ha (Nat.not_lt_zero a)⟩ (fun i σ H' _ ⟨_, _, _, S, _⟩ => SqL.of (S _ _ eg)) ?_ ?_⟩
        · rintro i x σ H' T hx ⟨v3, v4, rfl, S3, hb⟩ hT0
          have hi : i < gs.length := (List.getElem?_eq_some_iff.mp hx).1
          have S4 : Same H2 (upd H' T (.tup [.int (i : Nat), x])) := S3.trans (new_same hT0)
          refine ⟨T, _, rfl, SqT.of upd_same, rfl, _, _, rfl, _, _, rfl, rfl, ?_⟩
          generalize upd H' T (.tup [.int (i : Nat), x]) = H4 at S4
          have eg4 := S4 _ _ eg
          have er4 := S4 _ _ er
          have SA := S2.trans S4
          obtain ⟨sx, isx⟩ := (kg.keep SA) x (List.mem_of_getElem? hx)
          refine ⟨_, rfl, x, sx, rfl, isx, _, rfl, ?_⟩
          cases e : wholeB x 0 1000000000 with
          | false => exact iteT ⟨_, rfl, mkO_of2 ((k1 (i : Nat) "label" (due_word both c60 hb (word_label hx e) hi)).mono SA)⟩
          | true =>
            obtain ⟨b, rfl, _, _⟩ := whole_int e
            refine iteF ⟨_, rfl, _, _, rfl, rfl, _, rfl, ?_⟩
            cases i with
            | zero =>
              refine ifD (fun c => absurd c (by decide)) (fun _ => ?_)
              have o : ordB gs 0 = false := ord_zero
              refine ⟨_, rfl, _, rfl, pr, rs, rfl, .inl (SqL.of er4), _, _, rfl, rfl, _, rfl, ?_⟩
              refine ifD (fun c => ⟨_, rfl, mkO_of2 ((k1 ((0 : Nat) : Int) "row" (due_word both c60 hb (word_norow hx e o (List.getElem?_eq_none_iff.mpr (by omega))) hi)).mono SA)⟩) (fun c => ?_)
              obtain ⟨z, hz⟩ : ∃ z, rs[0]? = some z := ⟨rs[0]'(by omega), List.getElem?_eq_getElem (by omega)⟩
              obtain ⟨sz, esz, isz, knz⟩ := (hs.keep SA).at_ hz
              refine ⟨_, rfl, _, rfl, _, rfl, _, rfl, _, _, _, _, rfl, rfl, SqL.of er4, at_of (j := 0) (v := z) rfl hz, _, rfl, t, ns, 0, 0, z, sz, rfl, hT.keep SA, isz, knz, fun u hu => (k1 ((0 : Nat) : Int) u (due_word both c60 hb ((word_row hx e o esz).trans hu) hi)).mono SA, fun hn H5 S5 => ⟨_, _, rfl, S4.trans S5, fun a ha => ?_⟩⟩
              rcases Nat.lt_or_ge a (0) with ha2 | ha2
              · exact hb a ha2
              · obtain rfl : a = 0 := by omega
                rw [word_row hx e o esz]
                exact hn
            | succ i =>
              refine ifD (fun _ => ?_) (fun c => absurd (show (0 : Int) < ((i + 1 : Nat) : Int) by omega) c)
              obtain ⟨y, hy⟩ : ∃ y, gs[i]? = some y := ⟨gs[i], List.getElem?_eq_getElem (by omega)⟩
              have wi : wholeB y 0 1000000000 = true := by
                cases ey : wholeB y 0 1000000000 with
                | true => rfl
                | false =>
                  have := hb i (by omega)
                  rw [word_label hy ey] at this
                  cases this
              obtain ⟨a, rfl, _, _⟩ := whole_int wi
              have oo := ord_ints hy hx
              refine ⟨_, rfl, _, rfl, _, rfl, _, _, rfl, rfl, _, _, _, _, rfl, rfl, SqL.of eg4, at_of (j := i) (v := .int a) (by omega) hy, _, _, rfl, rfl, _, rfl, ?_⟩
              refine ifD (fun c => ⟨_, rfl, mkO_of2 ((k1 ((i + 1 : Nat) : Int) "order" (due_word both c60 hb (word_order hx e (oo.trans (decide_eq_true c))) hi)).mono SA)⟩) (fun c => ?_)
              have o : ordB gs (i + 1) = false := by
                rw [oo]
                exact decide_eq_false c
              refine ⟨_, rfl, _, rfl, pr, rs, rfl, .inl (SqL.of er4), _, _, rfl, rfl, _, rfl, ?_⟩
              refine ifD (fun c => ⟨_, rfl, mkO_of2 ((k1 (((i + 1) : Nat) : Int) "row" (due_word both c60 hb (word_norow hx e o (List.getElem?_eq_none_iff.mpr (by omega))) hi)).mono SA)⟩) (fun c => ?_)
              obtain ⟨z, hz⟩ : ∃ z, rs[(i + 1)]? = some z := ⟨rs[(i + 1)]'(by omega), List.getElem?_eq_getElem (by omega)⟩
              obtain ⟨sz, esz, isz, knz⟩ := (hs.keep SA).at_ hz
              refine ⟨_, rfl, _, rfl, _, rfl, _, rfl, _, _, _, _, rfl, rfl, SqL.of er4, at_of (j := (i + 1)) (v := z) rfl hz, _, rfl, t, ns, (i + 1), (i + 1), z, sz, rfl, hT.keep SA, isz, knz, fun u hu => (k1 (((i + 1) : Nat) : Int) u (due_word both c60 hb ((word_row hx e o esz).trans hu) hi)).mono SA, fun hn H5 S5 => ⟨_, _, rfl, S4.trans S5, fun a ha => ?_⟩⟩
              rcases Nat.lt_or_ge a ((i + 1)) with ha2 | ha2
              · exact hb a ha2
              · obtain rfl : a = (i + 1) := by omega
                rw [word_row hx e o esz]
                exact hn
        · rintro σ H' ⟨v3, v4, rfl, S3, hb⟩
          have eg3 := S3 _ _ eg
          have er3 := S3 _ _ er
          refine ⟨_, rfl, pr, rs, rfl, .inl (SqL.of er3), _, rfl, pg, gs, rfl, .inl (SqL.of eg3), _, _, rfl, rfl, _, rfl, ?_⟩
          refine ifD (fun c => ⟨_, rfl, pg, gs, rfl, .inl (SqL.of eg3), mkO_of2 ((k1 _ "rows" (due_rows both c60 hb (by show gs.length < rs.length; omega))).mono (S2.trans S3))⟩) (fun c => ?_)
          exact k2 (due_ok both c60 hb (by show ¬ gs.length < rs.length; omega)) _ (S2.trans S3)
      | tup rs =>
        obtain ⟨pg, rfl, hp⟩ := hg
        obtain ⟨pr, rfl, hq⟩ := hrr
        have both : (((Sh.lst gs).isL || (Sh.lst gs).isT) && ((Sh.tup rs).isL || (Sh.tup rs).isT)) = true := rfl
        refine ⟨_, (pss_cons 
    (ps_if (PW.pt (pw_or (pt_not (pt_val (pcal GS hr pass0 (pa_cons (pv 1) pa_nil)))) (pw_or1 (pt_not (pt_val (pcal GS hr pass0 (pa_cons (pv 2) pa_nil))))))) (pss_one (ps_raise rfl (takes_of rfl rfl rfl rfl) (pmk_oex GB.o GB.i GB.t GB.F hr2 GB.b .nil pass0 rfl GB.m (pa_cons pe_int (pa_cons pe_str pa_nil))))) pss_nil) (pss_cons 
    (ps_if (pt_cmpR op_gt (pe_callB call_len_seq (by rfl) nl PySem.boot_len (pa_cons (pv 1) pa_nil)) (pe_glob (v := .int 60) rfl mG ⟨_, rfl⟩) (nomark _)) (pss_one (ps_raise rfl (takes_of rfl rfl rfl rfl) (pmk_oex GB.o GB.i GB.t GB.F hr2 GB.b .nil pass0 rfl GB.m (pa_cons (pe_glob (v := .int 60) rfl mG ⟨_, rfl⟩) (pa_cons pe_str pa_nil))))) pss_nil) (pss_cons 
    (ps_for (passes_of rfl) rfl (pi_enum (by rfl) ne (pa_cons (pv 1) pa_nil)) (pg_tup (by rfl) (pgs_cons (pg_name (i := 3) sc_check_company.nd rfl (Or.inl rfl)) (pgs_cons (pg_name (i := 4) sc_check_company.nd rfl (Or.inl rfl)) pgs_nil))) (pss_cons 
      (ps_if (pt_not (pt_val (pcal GL hr pass0 (pa_cons (pv 4) pa_nil)))) (pss_one (ps_raise rfl (takes_of rfl rfl rfl rfl) (pmk_oex GB.o GB.i GB.t GB.F hr2 GB.b .nil pass0 rfl GB.m (pa_cons (pv 3) (pa_cons pe_str pa_nil))))) pss_nil) (pss_cons 
      (ps_if (PW.pt (pw_and (pt_cmpR op_gt (pv 3) pe_int (nomark _)) (pw_and1 (pt_cmpR op_le (pv 4) (pe_ix ix_list (pv 1) (pe_op op_sub (pv 3) pe_int) (fun _ _ => rfl)) (nomark _))))) (pss_one (ps_raise rfl (takes_of rfl rfl rfl rfl) (pmk_oex GB.o GB.i GB.t GB.F hr2 GB.b .nil pass0 rfl GB.m (pa_cons (pv 3) (pa_cons pe_str pa_nil))))) pss_nil) (pss_cons 
      (ps_if (pt_cmpR op_ge (pv 3) (pe_callB call_len_seq (by rfl) nl PySem.boot_len (pa_cons (pv 2) pa_nil)) (nomark _)) (pss_one (ps_raise rfl (takes_of rfl rfl rfl rfl) (pmk_oex GB.o GB.i GB.t GB.F hr2 GB.b .nil pass0 rfl GB.m (pa_cons (pv 3) (pa_cons pe_str pa_nil))))) pss_nil) (pss_one 
      (ps_expr (pcal GR hr (passes_call (takes_of rfl rfl rfl rfl) (fun _ _ _ _ h => h)) (pa_cons (pv 0) (pa_cons (pv 3) (pa_cons (pe_ix ix_tup (pv 2) (pv 3) (fun _ _ => rfl)) (pa_cons (pv 3) pa_nil))))))))))) (pss_one 
    (ps_if (pt_cmpR op_gt (pe_callB call_len_seq (by rfl) nl PySem.boot_len (pa_cons (pv 2) pa_nil)) (pe_callB call_len_seq (by rfl) nl PySem.boot_len (pa_cons (pv 1) pa_nil)) (nomark _)) (pss_one (ps_raise rfl (takes_of rfl rfl rfl rfl) (pmk_oex GB.o GB.i GB.t GB.F hr2 GB.b .nil pass0 rfl GB.m (pa_cons (pe_callB call_len_seq (by rfl) nl PySem.boot_len (pa_cons (pv 1) pa_nil)) (pa_cons pe_str pa_nil))))) pss_nil))))), ?_⟩
        refine ⟨_, rfl, _, Sh.lst gs, rfl, ⟨pg, rfl, hp⟩, fun H1 S1 => ⟨_, rfl, iteF ⟨_, rfl, _, Sh.tup rs, rfl, ⟨pr, rfl, S1 _ _ hq⟩, fun H2 S2' => ⟨_, rfl, iteF ?_⟩⟩⟩⟩
        have S2 := S1.trans S2'
        have eg := S2 _ _ hp
        have er := S2 _ _ hq
        refine ⟨_, rfl, pg, gs, rfl, .inl (SqL.of eg), _, _, rfl, rfl, _, rfl, ?_⟩
        refine ifD (fun c => mkO_of2 ((k1 60 "many" (due_many both (by show 60 < gs.length; omega))).mono S2)) (fun c => ?_)
        have c60 : gs.length ≤ 60 := by omega
        have rl : rs.length = ss.length := hs.len
        refine ⟨_, rfl, pg, gs, rfl, SqL.of eg, for_enum (K := K) (a := pg) (xs := gs) (fun i σ H' => ∃ v3 v4 : Option V, σ = [some (.ref t), some (.ref pg), some (.ref pr), v3, v4] ∧ Same H2 H' ∧ ∀ a, a < i → wordC ns.length gs ss a = none)
          ⟨none, none, rfl, Same.refl _, fun a ha => absurd ha (Nat.not_lt_zero a)⟩ (fun i σ H' _ ⟨_, _, _, S, _⟩ => SqL.of (S _ _ eg)) ?_ ?_⟩
        · rintro i x σ H' T hx ⟨v3, v4, rfl, S3, hb⟩ hT0
          have hi : i < gs.length := (List.getElem?_eq_some_iff.mp hx).1
          have S4 : Same H2 (upd H' T (.tup [.int (i : Nat), x])) := S3.trans (new_same hT0)
          refine ⟨T, _, rfl, SqT.of upd_same, rfl, _, _, rfl, _, _, rfl, rfl, ?_⟩
          generalize upd H' T (.tup [.int (i : Nat), x]) = H4 at S4
          have eg4 := S4 _ _ eg
          have er4 := S4 _ _ er
          have SA := S2.trans S4
          obtain ⟨sx, isx⟩ := (kg.keep SA) x (List.mem_of_getElem? hx)
          refine ⟨_, rfl, x, sx, rfl, isx, _, rfl, ?_⟩
          cases e : wholeB x 0 1000000000 with
          | false => exact iteT ⟨_, rfl, mkO_of2 ((k1 (i : Nat) "label" (due_word both c60 hb (word_label hx e) hi)).mono SA)⟩
          | true =>
            obtain ⟨b, rfl, _, _⟩ := whole_int e
            refine iteF ⟨_, rfl, _, _, rfl, rfl, _, rfl, ?_⟩
            cases i with
            | zero =>
              refine ifD (fun c => absurd c (by decide)) (fun _ => ?_)
              have o : ordB gs 0 = false := ord_zero
              refine ⟨_, rfl, _, rfl, pr, rs, rfl, .inr (SqT.of er4), _, _, rfl, rfl, _, rfl, ?_⟩
              refine ifD (fun c => ⟨_, rfl, mkO_of2 ((k1 ((0 : Nat) : Int) "row" (due_word both c60 hb (word_norow hx e o (List.getElem?_eq_none_iff.mpr (by omega))) hi)).mono SA)⟩) (fun c => ?_)
              obtain ⟨z, hz⟩ : ∃ z, rs[0]? = some z := ⟨rs[0]'(by omega), List.getElem?_eq_getElem (by omega)⟩
              obtain ⟨sz, esz, isz, knz⟩ := (hs.keep SA).at_ hz
              refine ⟨_, rfl, _, rfl, _, rfl, _, rfl, _, _, _, _, rfl, rfl, SqT.of er4, at_of (j := 0) (v := z) rfl hz, _, rfl, t, ns, 0, 0, z, sz, rfl, hT.keep SA, isz, knz, fun u hu => (k1 ((0 : Nat) : Int) u (due_word both c60 hb ((word_row hx e o esz).trans hu) hi)).mono SA, fun hn H5 S5 => ⟨_, _, rfl, S4.trans S5, fun a ha => ?_⟩⟩
              rcases Nat.lt_or_ge a (0) with ha2 | ha2
              · exact hb a ha2
              · obtain rfl : a = 0 := by omega
                rw [word_row hx e o esz]
                exact hn
            | succ i =>
              refine ifD (fun _ => ?_) (fun c => absurd (show (0 : Int) < ((i + 1 : Nat) : Int) by omega) c)
              obtain ⟨y, hy⟩ : ∃ y, gs[i]? = some y := ⟨gs[i], List.getElem?_eq_getElem (by omega)⟩
              have wi : wholeB y 0 1000000000 = true := by
                cases ey : wholeB y 0 1000000000 with
                | true => rfl
                | false =>
                  have := hb i (by omega)
                  rw [word_label hy ey] at this
                  cases this
              obtain ⟨a, rfl, _, _⟩ := whole_int wi
              have oo := ord_ints hy hx
              refine ⟨_, rfl, _, rfl, _, rfl, _, _, rfl, rfl, _, _, _, _, rfl, rfl, SqL.of eg4, at_of (j := i) (v := .int a) (by omega) hy, _, _, rfl, rfl, _, rfl, ?_⟩
              refine ifD (fun c => ⟨_, rfl, mkO_of2 ((k1 ((i + 1 : Nat) : Int) "order" (due_word both c60 hb (word_order hx e (oo.trans (decide_eq_true c))) hi)).mono SA)⟩) (fun c => ?_)
              have o : ordB gs (i + 1) = false := by
                rw [oo]
                exact decide_eq_false c
              refine ⟨_, rfl, _, rfl, pr, rs, rfl, .inr (SqT.of er4), _, _, rfl, rfl, _, rfl, ?_⟩
              refine ifD (fun c => ⟨_, rfl, mkO_of2 ((k1 (((i + 1) : Nat) : Int) "row" (due_word both c60 hb (word_norow hx e o (List.getElem?_eq_none_iff.mpr (by omega))) hi)).mono SA)⟩) (fun c => ?_)
              obtain ⟨z, hz⟩ : ∃ z, rs[(i + 1)]? = some z := ⟨rs[(i + 1)]'(by omega), List.getElem?_eq_getElem (by omega)⟩
              obtain ⟨sz, esz, isz, knz⟩ := (hs.keep SA).at_ hz
              refine ⟨_, rfl, _, rfl, _, rfl, _, rfl, _, _, _, _, rfl, rfl, SqT.of er4, at_of (j := (i + 1)) (v := z) rfl hz, _, rfl, t, ns, (i + 1), (i + 1), z, sz, rfl, hT.keep SA, isz, knz, fun u hu => (k1 (((i + 1) : Nat) : Int) u (due_word both c60 hb ((word_row hx e o esz).trans hu) hi)).mono SA, fun hn H5 S5 => ⟨_, _, rfl, S4.trans S5, fun a ha => ?_⟩⟩
              rcases Nat.lt_or_ge a ((i + 1)) with ha2 | ha2
              · exact hb a ha2
              · obtain rfl : a = (i + 1) := by omega
                rw [word_row hx e o esz]
                exact hn
        · rintro σ H' ⟨v3, v4, rfl, S3, hb⟩
          have eg3 := S3 _ _ eg
          have er3 := S3 _ _ er
          refine ⟨_, rfl, pr, rs, rfl, .inr (SqT.of er3), _, rfl, pg, gs, rfl, .inl (SqL.of eg3), _, _, rfl, rfl, _, rfl, ?_⟩
          refine ifD (fun c => ⟨_, rfl, pg, gs, rfl, .inl (SqL.of eg3), mkO_of2 ((k1 _ "rows" (due_rows both c60 hb (by show gs.length < rs.length; omega))).mono (S2.trans S3))⟩) (fun c => ?_)
          exact k2 (due_ok both c60 hb (by show ¬ gs.length < rs.length; omega)) _ (S2.trans S3)
    | tup gs =>
      cases sr with
      | sc u =>
        obtain ⟨pg, rfl, hp⟩ := hg
        refine ⟨_, (pss_cons 
    (ps_if (PW.pt (pw_or (pt_not (pt_val (pcal GS hr pass0 (pa_cons (pv 1) pa_nil)))) (pw_or1 (pt_not (pt_val (pcal GS hr pass0 (pa_cons (pv 2) pa_nil))))))) (pss_one (ps_raise rfl (takes_of rfl rfl rfl rfl) (pmk_oex GB.o GB.i GB.t GB.F hr2 GB.b .nil pass0 rfl GB.m (pa_cons pe_int (pa_cons pe_str pa_nil))))) pss_nil) (pss_cons 
    (ps_if (pt_cmpR op_gt (pe_callB call_len_seq (by rfl) nl PySem.boot_len (pa_cons (pv 1) pa_nil)) (pe_glob (v := .int 60) rfl mG ⟨_, rfl⟩) (nomark _)) (pss_one (ps_raise rfl (takes_of rfl rfl rfl rfl) (pmk_oex GB.o GB.i GB.t GB.F hr2 GB.b .nil pass0 rfl GB.m (pa_cons (pe_glob (v := .int 60) rfl mG ⟨_, rfl⟩) (pa_cons pe_str pa_nil))))) pss_nil) (pss_cons 
    (ps_for (passes_of rfl) rfl (pi_enumT (by rfl) ne (pa_cons (pv 1) pa_nil)) (pg_tup (by rfl) (pgs_cons (pg_name (i := 3) sc_check_company.nd rfl (Or.inl rfl)) (pgs_cons (pg_name (i := 4) sc_check_company.nd rfl (Or.inl rfl)) pgs_nil))) (pss_cons 
      (ps_if (pt_not (pt_val (pcal GL hr pass0 (pa_cons (pv 4) pa_nil)))) (pss_one (ps_raise rfl (takes_of rfl rfl rfl rfl) (pmk_oex GB.o GB.i GB.t GB.F hr2 GB.b .nil pass0 rfl GB.m (pa_cons (pv 3) (pa_cons pe_str pa_nil))))) pss_nil) (pss_cons 
      (ps_if (PW.pt (pw_and (pt_cmpR op_gt (pv 3) pe_int (nomark _)) (pw_and1 (pt_cmpR op_le (pv 4) (pe_ix ix_tup (pv 1) (pe_op op_sub (pv 3) pe_int) (fun _ _ => rfl)) (nomark _))))) (pss_one (ps_raise rfl (takes_of rfl rfl rfl rfl) (pmk_oex GB.o GB.i GB.t GB.F hr2 GB.b .nil pass0 rfl GB.m (pa_cons (pv 3) (pa_cons pe_str pa_nil))))) pss_nil) (pss_cons 
      (ps_if (pt_cmpR op_ge (pv 3) (pe_callB call_len_seq (by rfl) nl PySem.boot_len (pa_cons (pv 2) pa_nil)) (nomark _)) (pss_one (ps_raise rfl (takes_of rfl rfl rfl rfl) (pmk_oex GB.o GB.i GB.t GB.F hr2 GB.b .nil pass0 rfl GB.m (pa_cons (pv 3) (pa_cons pe_str pa_nil))))) pss_nil) (pss_one 
      (ps_expr (pcal GR hr (passes_call (takes_of rfl rfl rfl rfl) (fun _ _ _ _ h => h)) (pa_cons (pv 0) (pa_cons (pv 3) (pa_cons (pe_ix ix_list (pv 2) (pv 3) (fun _ _ => rfl)) (pa_cons (pv 3) pa_nil))))))))))) (pss_one 
    (ps_if (pt_cmpR op_gt (pe_callB call_len_seq (by rfl) nl PySem.boot_len (pa_cons (pv 2) pa_nil)) (pe_callB call_len_seq (by rfl) nl PySem.boot_len (pa_cons (pv 1) pa_nil)) (nomark _)) (pss_one (ps_raise rfl (takes_of rfl rfl rfl rfl) (pmk_oex GB.o GB.i GB.t GB.F hr2 GB.b .nil pass0 rfl GB.m (pa_cons (pe_callB call_len_seq (by rfl) nl PySem.boot_len (pa_cons (pv 1) pa_nil)) (pa_cons pe_str pa_nil))))) pss_nil))))), ?_⟩
        exact ⟨_, rfl, _, Sh.tup gs, rfl, ⟨pg, rfl, hp⟩, fun H1 S1 => ⟨_, rfl, iteF ⟨_, rfl, r, (.sc u), rfl, hrr.keep S1, fun H2 S2 => ⟨_, rfl, iteT (mkO_of2 ((k1 0 "sequence" (due_seq rfl)).mono (S1.trans S2)))⟩⟩⟩⟩
      | dk =>
        obtain ⟨pg, rfl, hp⟩ := hg
        refine ⟨_, (pss_cons 
    (ps_if (PW.pt (pw_or (pt_not (pt_val (pcal GS hr pass0 (pa_cons (pv 1) pa_nil)))) (pw_or1 (pt_not (pt_val (pcal GS hr pass0 (pa_cons (pv 2) pa_nil))))))) (pss_one (ps_raise rfl (takes_of rfl rfl rfl rfl) (pmk_oex GB.o GB.i GB.t GB.F hr2 GB.b .nil pass0 rfl GB.m (pa_cons pe_int (pa_cons pe_str pa_nil))))) pss_nil) (pss_cons 
    (ps_if (pt_cmpR op_gt (pe_callB call_len_seq (by rfl) nl PySem.boot_len (pa_cons (pv 1) pa_nil)) (pe_glob (v := .int 60) rfl mG ⟨_, rfl⟩) (nomark _)) (pss_one (ps_raise rfl (takes_of rfl rfl rfl rfl) (pmk_oex GB.o GB.i GB.t GB.F hr2 GB.b .nil pass0 rfl GB.m (pa_cons (pe_glob (v := .int 60) rfl mG ⟨_, rfl⟩) (pa_cons pe_str pa_nil))))) pss_nil) (pss_cons 
    (ps_for (passes_of rfl) rfl (pi_enumT (by rfl) ne (pa_cons (pv 1) pa_nil)) (pg_tup (by rfl) (pgs_cons (pg_name (i := 3) sc_check_company.nd rfl (Or.inl rfl)) (pgs_cons (pg_name (i := 4) sc_check_company.nd rfl (Or.inl rfl)) pgs_nil))) (pss_cons 
      (ps_if (pt_not (pt_val (pcal GL hr pass0 (pa_cons (pv 4) pa_nil)))) (pss_one (ps_raise rfl (takes_of rfl rfl rfl rfl) (pmk_oex GB.o GB.i GB.t GB.F hr2 GB.b .nil pass0 rfl GB.m (pa_cons (pv 3) (pa_cons pe_str pa_nil))))) pss_nil) (pss_cons 
      (ps_if (PW.pt (pw_and (pt_cmpR op_gt (pv 3) pe_int (nomark _)) (pw_and1 (pt_cmpR op_le (pv 4) (pe_ix ix_tup (pv 1) (pe_op op_sub (pv 3) pe_int) (fun _ _ => rfl)) (nomark _))))) (pss_one (ps_raise rfl (takes_of rfl rfl rfl rfl) (pmk_oex GB.o GB.i GB.t GB.F hr2 GB.b .nil pass0 rfl GB.m (pa_cons (pv 3) (pa_cons pe_str pa_nil))))) pss_nil) (pss_cons 
      (ps_if (pt_cmpR op_ge (pv 3) (pe_callB call_len_seq (by rfl) nl PySem.boot_len (pa_cons (pv 2) pa_nil)) (nomark _)) (pss_one (ps_raise rfl (takes_of rfl rfl rfl rfl) (pmk_oex GB.o GB.i GB.t GB.F hr2 GB.b .nil pass0 rfl GB.m (pa_cons (pv 3) (pa_cons pe_str pa_nil))))) pss_nil) (pss_one 
      (ps_expr (pcal GR hr (passes_call (takes_of rfl rfl rfl rfl) (fun _ _ _ _ h => h)) (pa_cons (pv 0) (pa_cons (pv 3) (pa_cons (pe_ix ix_list (pv 2) (pv 3) (fun _ _ => rfl)) (pa_cons (pv 3) pa_nil))))))))))) (pss_one 
    (ps_if (pt_cmpR op_gt (pe_callB call_len_seq (by rfl) nl PySem.boot_len (pa_cons (pv 2) pa_nil)) (pe_callB call_len_seq (by rfl) nl PySem.boot_len (pa_cons (pv 1) pa_nil)) (nomark _)) (pss_one (ps_raise rfl (takes_of rfl rfl rfl rfl) (pmk_oex GB.o GB.i GB.t GB.F hr2 GB.b .nil pass0 rfl GB.m (pa_cons (pe_callB call_len_seq (by rfl) nl PySem.boot_len (pa_cons (pv 1) pa_nil)) (pa_cons pe_str pa_nil))))) pss_nil))))), ?_⟩
        exact ⟨_, rfl, _, Sh.tup gs, rfl, ⟨pg, rfl, hp⟩, fun H1 S1 => ⟨_, rfl, iteF ⟨_, rfl, r, .dk, rfl, hrr.keep S1, fun H2 S2 => ⟨_, rfl, iteT (mkO_of2 ((k1 0 "sequence" (due_seq rfl)).mono (S1.trans S2)))⟩⟩⟩⟩
      | lst rs =>
        obtain ⟨pg, rfl, hp⟩ := hg
        obtain ⟨pr, rfl, hq⟩ := hrr
        have both : (((Sh.tup gs).isL || (Sh.tup gs).isT) && ((Sh.lst rs).isL || (Sh.lst rs).isT)) = true := rfl
        refine ⟨_, (pss_cons 
    (ps_if (PW.pt (pw_or (pt_not (pt_val (pcal GS hr pass0 (pa_cons (pv 1) pa_nil)))) (pw_or1 (pt_not (pt_val (pcal GS hr pass0 (pa_cons (pv 2) pa_nil))))))) (pss_one (ps_raise rfl (takes_of rfl rfl rfl rfl) (pmk_oex GB.o GB.i GB.t GB.F hr2 GB.b .nil pass0 rfl GB.m (pa_cons pe_int (pa_cons pe_str pa_nil))))) pss_nil) (pss_cons 
    (ps_if (pt_cmpR op_gt (pe_callB call_len_seq (by rfl) nl PySem.boot_len (pa_cons (pv 1) pa_nil)) (pe_glob (v := .int 60) rfl mG ⟨_, rfl⟩) (nomark _)) (pss_one (ps_raise rfl (takes_of rfl rfl rfl rfl) (pmk_oex GB.o GB.i GB.t GB.F hr2 GB.b .nil pass0 rfl GB.m (pa_cons (pe_glob (v := .int 60) rfl mG ⟨_, rfl⟩) (pa_cons pe_str pa_nil))))) pss_nil) (pss_cons 
    (ps_for (passes_of rfl) rfl (pi_enumT (by rfl) ne (pa_cons (pv 1) pa_nil)) (pg_tup (by rfl) (pgs_cons (pg_name (i := 3) sc_check_company.nd rfl (Or.inl rfl)) (pgs_cons (pg_name (i := 4) sc_check_company.nd rfl (Or.inl rfl)) pgs_nil))) (pss_cons 
      (ps_if (pt_not (pt_val (pcal GL hr pass0 (pa_cons (pv 4) pa_nil)))) (pss_one (ps_raise rfl (takes_of rfl rfl rfl rfl) (pmk_oex GB.o GB.i GB.t GB.F hr2 GB.b .nil pass0 rfl GB.m (pa_cons (pv 3) (pa_cons pe_str pa_nil))))) pss_nil) (pss_cons 
      (ps_if (PW.pt (pw_and (pt_cmpR op_gt (pv 3) pe_int (nomark _)) (pw_and1 (pt_cmpR op_le (pv 4) (pe_ix ix_tup (pv 1) (pe_op op_sub (pv 3) pe_int) (fun _ _ => rfl)) (nomark _))))) (pss_one (ps_raise rfl (takes_of rfl rfl rfl rfl) (pmk_oex GB.o GB.i GB.t GB.F hr2 GB.b .nil pass0 rfl GB.m (pa_cons (pv 3) (pa_cons pe_str pa_nil))))) pss_nil) (pss_cons 
      (ps_if (pt_cmpR op_ge (pv 3) (pe_callB call_len_seq (by rfl) nl PySem.boot_len (pa_cons (pv 2) pa_nil)) (nomark _)) (pss_one (ps_raise rfl (takes_of rfl rfl rfl rfl) (pmk_oex GB.o GB.i GB.t GB.F hr2 GB.b .nil pass0 rfl GB.m (pa_cons (pv 3) (pa_cons pe_str pa_nil))))) pss_nil) (pss_one 
      (ps_expr (pcal GR hr (passes_call (takes_of rfl rfl rfl rfl) (fun _ _ _ _ h => h)) (pa_cons (pv 0) (pa_cons (pv 3) (pa_cons (pe_ix ix_list (pv 2) (pv 3) (fun _ _ => rfl)) (pa_cons (pv 3) pa_nil))))))))))) (pss_one 
    (ps_if (pt_cmpR op_gt (pe_callB call_len_seq (by rfl) nl PySem.boot_len (pa_cons (pv 2) pa_nil)) (pe_callB call_len_seq (by rfl) nl PySem.boot_len (pa_cons (pv 1) pa_nil)) (nomark _)) (pss_one (ps_raise rfl (takes_of rfl rfl rfl rfl) (pmk_oex GB.o GB.i GB.t GB.F hr2 GB.b .nil pass0 rfl GB.m (pa_cons (pe_callB call_len_seq (by rfl) nl PySem.boot_len (pa_cons (pv 1) pa_nil)) (pa_cons pe_str pa_nil))))) pss_nil))))), ?_⟩
        refine ⟨_, rfl, _, Sh.tup gs, rfl, ⟨pg, rfl, hp⟩, fun H1 S1 => ⟨_, rfl, iteF ⟨_, rfl, _, Sh.lst rs, rfl, ⟨pr, rfl, S1 _ _ hq⟩, fun H2 S2' => ⟨_, rfl, iteF ?_⟩⟩⟩⟩
        have S2 := S1.trans S2'
        have eg := S2 _ _ hp
        have er := S2 _ _ hq
        refine ⟨_, rfl, pg, gs, rfl, .inr (SqT.of eg), _, _, rfl, rfl, _, rfl, ?_⟩
        refine ifD (fun c => mkO_of2 ((k1 60 "many" (due_many both (by show 60 < gs.length; omega))).mono S2)) (fun c => ?_)
        have c60 : gs.length ≤ 60 := by omega
        have rl : rs.length = ss.length := hs.len
        refine ⟨_, rfl, pg, gs, rfl, SqT.of eg, for_enumT (K := K) (a := pg) (xs := gs) (fun i σ H' => ∃ v3 v4 : Option V, σ = [some (.ref t), some (.ref pg), some (.ref pr), v3, v4] ∧ Same H2 H' ∧ ∀ a, a < i → wordC ns.length gs ss a = none)
          ⟨none, none, rfl, Same.refl _, fun a ha => absurd ha (Nat.not_lt_zero a)⟩ (fun i σ H' _ ⟨_, _, _, S, _⟩ => SqT.of (S _ _ eg)) ?_ ?_⟩
        · rintro i x σ H' T hx ⟨v3, v4, rfl, S3, hb⟩ hT0
          have hi : i < gs.length := (List.getElem?_eq_some_iff.mp hx).1
          have S4 : Same H2 (upd H' T (.tup [.int (i : Nat), x])) := S3.trans (new_same hT0)
          refine ⟨T, _, rfl, SqT.of upd_same, rfl, _, _, rfl, _, _, rfl, rfl, ?_⟩
          generalize upd H' T (.tup [.int (i : Nat), x]) = H4 at S4
          have eg4 := S4 _ _ eg
          have er4 := S4 _ _ er
          have SA := S2.trans S4
          obtain ⟨sx, isx⟩ := (kg.keep SA) x (List.mem_of_getElem? hx)
          refine ⟨_, rfl, x, sx, rfl, isx, _, rfl, ?_⟩
          cases e : wholeB x 0 1000000000 with
          | false => exact iteT ⟨_, rfl, mkO_of2 ((k1 (i : Nat) "label" (due_word both c60 hb (word_label hx e) hi)).mono SA)⟩
          | true =>
            obtain ⟨b, rfl, _, _⟩ := whole_int e
            refine iteF ⟨_, rfl, _, _, rfl, rfl, _, rfl, ?_⟩
            cases i with
            | zero =>
              refine ifD (fun c => absurd c (by decide)) (fun _ => ?_)
              have o : ordB gs 0 = false := ord_zero
              refine ⟨_, rfl, _, rfl, pr, rs, rfl, .inl (SqL.of er4), _, _, rfl, rfl, _, rfl, ?_⟩
              refine ifD (fun c => ⟨_, rfl, mkO_of2 ((k1 ((0 : Nat) : Int) "row" (due_word both c60 hb (word_norow hx e o (List.getElem?_eq_none_iff.mpr (by omega))) hi)).mono SA)⟩) (fun c => ?_)
              obtain ⟨z, hz⟩ : ∃ z, rs[0]? = some z := ⟨rs[0]'(by omega), List.getElem?_eq_getElem (by omega)⟩
              obtain ⟨sz, esz, isz, knz⟩ := (hs.keep SA).at_ hz
              refine ⟨_, rfl, _, rfl, _, rfl, _, rfl, _, _, _, _, rfl, rfl, SqL.of er4, at_of (j := 0) (v := z) rfl hz, _, rfl, t, ns, 0, 0, z, sz, rfl, hT.keep SA, isz, knz, fun u hu => (k1 ((0 : Nat) : Int) u (due_word both c60 hb ((word_row hx e o esz).trans hu) hi)).mono SA, fun hn H5 S5 => ⟨_, _, rfl, S4.trans S5, fun a ha => ?_⟩⟩
              rcases Nat.lt_or_ge a (0) with ha2 | ha2
              · exact hb a ha2
              · obtain rfl : a = 0 := by omega
                rw [word_row hx e o esz]
                exact hn
            | succ i =>
              refine ifD (fun _ => ?_) (fun c => absurd (show (0 : Int) < ((i + 1 : Nat) : Int) by omega) c)
              obtain ⟨y, hy⟩ : ∃ y, gs[i]? = some y := ⟨gs[i], List.getElem?_eq_getElem (by omega)⟩
              have wi : wholeB y 0 1000000000 = true := by
                cases ey : wholeB y 0 1000000000 with
                | true => rfl
                | false =>
                  have := hb i (by omega)
                  rw [word_label hy ey] at this
                  cases this
              obtain ⟨a, rfl, _, _⟩ := whole_int wi
              have oo := ord_ints hy hx
              refine ⟨_, rfl, _, rfl, _, rfl, _, _, rfl, rfl, _, _, _, _, rfl, rfl, SqT.of eg4, at_of (j := i) (v := .int a) (by omega) hy, _, _, rfl, rfl, _, rfl, ?_⟩
              refine ifD (fun c => ⟨_, rfl, mkO_of2 ((k1 ((i + 1 : Nat) : Int) "order" (due_word both c60 hb (word_order hx e (oo.trans (decide_eq_true c))) hi)).mono SA)⟩) (fun c => ?_)
              have o : ordB gs (i + 1) = false := by
                rw [oo]
                exact decide_eq_false c
              refine ⟨_, rfl, _, rfl, pr, rs, rfl, .inl (SqL.of er4), _, _, rfl, rfl, _, rfl, ?_⟩
              refine ifD (fun c => ⟨_, rfl, mkO_of2 ((k1 (((i + 1) : Nat) : Int) "row" (due_word both c60 hb (word_norow hx e o (List.getElem?_eq_none_iff.mpr (by omega))) hi)).mono SA)⟩) (fun c => ?_)
              obtain ⟨z, hz⟩ : ∃ z, rs[(i + 1)]? = some z := ⟨rs[(i + 1)]'(by omega), List.getElem?_eq_getElem (by omega)⟩
              obtain ⟨sz, esz, isz, knz⟩ := (hs.keep SA).at_ hz
              refine ⟨_, rfl, _, rfl, _, rfl, _, rfl, _, _, _, _, rfl, rfl, SqL.of er4, at_of (j := (i + 1)) (v := z) rfl hz, _, rfl, t, ns, (i + 1), (i + 1), z, sz, rfl, hT.keep SA, isz, knz, fun u hu => (k1 (((i + 1) : Nat) : Int) u (due_word both c60 hb ((word_row hx e o esz).trans hu) hi)).mono SA, fun hn H5 S5 => ⟨_, _, rfl, S4.trans S5, fun a ha => ?_⟩⟩
              rcases Nat.lt_or_ge a ((i + 1)) with ha2 | ha2
              · exact hb a ha2
              · obtain rfl : a = (i + 1) := by omega
                rw [word_row hx e o esz]
                exact hn
        · rintro σ H' ⟨v3, v4, rfl, S3, hb⟩
          have eg3 := S3 _ _ eg
          have er3 := S3 _ _ er
          refine ⟨_, rfl, pr, rs, rfl, .inl (SqL.of er3), _, rfl, pg, gs, rfl, .inr (SqT.of eg3), _, _, rfl, rfl, _, rfl, ?_⟩
          refine ifD (fun c => ⟨_, rfl, pg, gs, rfl, .inr (SqT.of eg3), mkO_of2 ((k1 _ "rows" (due_rows both c60 hb (by show gs.length < rs.length; omega))).mono (S2.trans S3))⟩) (fun c => ?_)
          exact k2 (due_ok both c60 hb (by show ¬ gs.length < rs.length; omega)) _ (S2.trans S3)
      | tup rs =>
        obtain ⟨pg, rfl, hp⟩ := hg
        obtain ⟨pr, rfl, hq⟩ := hrr
        have both : (((Sh.tup gs).isL || (Sh.tup gs).isT) && ((Sh.tup rs).isL || (Sh.tup rs).isT)) = true := rfl
        refine ⟨_, (pss_cons 
    (ps_if (PW.pt (pw_or (pt_not (pt_val (pcal GS hr pass0 (pa_cons (pv 1) pa_nil)))) (pw_or1 (pt_not (pt_val (pcal GS hr pass0 (pa_cons (pv 2) pa_nil))))))) (pss_one (ps_raise rfl (takes_of rfl rfl rfl rfl) (pmk_oex GB.o GB.i GB.t GB.F hr2 GB.b .nil pass0 rfl GB.m (pa_cons pe_int (pa_cons pe_str pa_nil))))) pss_nil) (pss_cons 
    (ps_if (pt_cmpR op_gt (pe_callB call_len_seq (by rfl) nl PySem.boot_len (pa_cons (pv 1) pa_nil)) (pe_glob (v := .int 60) rfl mG ⟨_, rfl⟩) (nomark _)) (pss_one (ps_raise rfl (takes_of rfl rfl rfl rfl) (pmk_oex GB.o GB.i GB.t GB.F hr2 GB.b .nil pass0 rfl GB.m (pa_cons (pe_glob (v := .int 60) rfl mG ⟨_, rfl⟩) (pa_cons pe_str pa_nil))))) pss_nil) (pss_cons 
    (ps_for (passes_of rfl) rfl (pi_enumT (by rfl) ne (pa_cons (pv 1) pa_nil)) (pg_tup (by rfl) (pgs_cons (pg_name (i := 3) sc_check_company.nd rfl (Or.inl rfl)) (pgs_cons (pg_name (i := 4) sc_check_company.nd rfl (Or.inl rfl)) pgs_nil))) (pss_cons 
      (ps_if (pt_not (pt_val (pcal GL hr pass0 (pa_cons (pv 4) pa_nil)))) (pss_one (ps_raise rfl (takes_of rfl rfl rfl rfl) (pmk_oex GB.o GB.i GB.t GB.F hr2 GB.b .nil pass0 rfl GB.m (pa_cons (pv 3) (pa_cons pe_str pa_nil))))) pss_nil) (pss_cons 
      (ps_if (PW.pt (pw_and (pt_cmpR op_gt (pv 3) pe_int (nomark _)) (pw_and1 (pt_cmpR op_le (pv 4) (pe_ix ix_tup (pv 1) (pe_op op_sub (pv 3) pe_int) (fun _ _ => rfl)) (nomark _))))) (pss_one (ps_raise rfl (takes_of rfl rfl rfl rfl) (pmk_oex GB.o GB.i GB.t GB.F hr2 GB.b .nil pass0 rfl GB.m (pa_cons (pv 3) (pa_cons pe_str pa_nil))))) pss_nil) (pss_cons 
      (ps_if (pt_cmpR op_ge (pv 3) (pe_callB call_len_seq (by rfl) nl PySem.boot_len (pa_cons (pv 2) pa_nil)) (nomark _)) (pss_one (ps_raise rfl (takes_of rfl rfl rfl rfl) (pmk_oex GB.o GB.i GB.t GB.F hr2 GB.b .nil pass0 rfl GB.m (pa_cons (pv 3) (pa_cons pe_str pa_nil))))) pss_nil) (pss_one 
      (ps_expr (pcal GR hr (passes_call (takes_of rfl rfl rfl rfl) (fun _ _ _ _ h => h)) (pa_cons (pv 0) (pa_cons (pv 3) (pa_cons (pe_ix ix_tup (pv 2) (pv 3) (fun _ _ => rfl)) (pa_cons (pv 3) pa_nil))))))))))) (pss_one 
    (ps_if (pt_cmpR op_gt (pe_callB call_len_seq (by rfl) nl PySem.boot_len (pa_cons (pv 2) pa_nil)) (pe_callB call_len_seq (by rfl) nl PySem.boot_len (pa_cons (pv 1) pa_nil)) (nomark _)) (pss_one (ps_raise rfl (takes_of rfl rfl rfl rfl) (pmk_oex GB.o GB.i GB.t GB.F hr2 GB.b .nil pass0 rfl GB.m (pa_cons (pe_callB call_len_seq (by rfl) nl PySem.boot_len (pa_cons (pv 1) pa_nil)) (pa_cons pe_str pa_nil))))) pss_nil))))), ?_⟩
        refine ⟨_, rfl, _, Sh.tup gs, rfl, ⟨pg, rfl, hp⟩, fun H1 S1 => ⟨_, rfl, iteF ⟨_, rfl, _, Sh.tup rs, rfl, ⟨pr, rfl, S1 _ _ hq⟩, fun H2 S2' => ⟨_, rfl, iteF ?_⟩⟩⟩⟩
        have S2 := S1.trans S2'
        have eg := S2 _ _ hp
        have er := S2 _ _ hq
        refine ⟨_, rfl, pg, gs, rfl, .inr (SqT.of eg), _, _, rfl, rfl, _, rfl, ?_⟩
        refine ifD (fun c => mkO_of2 ((k1 60 "many" (due_many both (by show 60 < gs.length; omega))).mono S2)) (fun c => ?_)
        have c60 : gs.length ≤ 60 := by omega
        have rl : rs.length = ss.length := hs.len
        refine ⟨_, rfl, pg, gs, rfl, SqT.of eg, for_enumT (K := K) (a := pg) (xs := gs) (fun i σ H' => ∃ v3 v4 : Option V, σ = [some (.ref t), some (.ref pg), some (.ref pr), v3, v4] ∧ Same H2 H' ∧ ∀ a, a < i → wordC ns.length gs ss a = none)
          ⟨none, none, rfl, Same.refl _, fun a ha => absurd ha (Nat.not_lt_zero a)⟩ (fun i σ H' _ ⟨_, _, _, S, _⟩ => SqT.of (S _ _ eg)) ?_ ?_⟩
        · rintro i x σ H' T hx ⟨v3, v4, rfl, S3, hb⟩ hT0
          have hi : i < gs.length := (List.getElem?_eq_some_iff.mp hx).1
          have S4 : Same H2 (upd H' T (.tup [.int (i : Nat), x])) := S3.trans (new_same hT0)
          refine ⟨T, _, rfl, SqT.of upd_same, rfl, _, _, rfl, _, _, rfl, rfl, ?_⟩
          generalize upd H' T (.tup [.int (i : Nat), x]) = H4 at S4
          have eg4 := S4 _ _ eg
          have er4 := S4 _ _ er
          have SA := S2.trans S4
          obtain ⟨sx, isx⟩ := (kg.keep SA) x (List.mem_of_getElem? hx)
          refine ⟨_, rfl, x, sx, rfl, isx, _, rfl, ?_⟩
          cases e : wholeB x 0 1000000000 with
          | false => exact iteT ⟨_, rfl, mkO_of2 ((k1 (i : Nat) "label" (due_word both c60 hb (word_label hx e) hi)).mono SA)⟩
          | true =>
            obtain ⟨b, rfl, _, _⟩ := whole_int e
            refine iteF ⟨_, rfl, _, _, rfl, rfl, _, rfl, ?_⟩
            cases i with
            | zero =>
              refine ifD (fun c => absurd c (by decide)) (fun _ => ?_)
              have o : ordB gs 0 = false := ord_zero
              refine ⟨_, rfl, _, rfl, pr, rs, rfl, .inr (SqT.of er4), _, _, rfl, rfl, _, rfl, ?_⟩
              refine ifD (fun c => ⟨_, rfl, mkO_of2 ((k1 ((0 : Nat) : Int) "row" (due_word both c60 hb (word_norow hx e o (List.getElem?_eq_none_iff.mpr (by omega))) hi)).mono SA)⟩) (fun c => ?_)
              obtain ⟨z, hz⟩ : ∃ z, rs[0]? = some z := ⟨rs[0]'(by omega), List.getElem?_eq_getElem (by omega)⟩
              obtain ⟨sz, esz, isz, knz⟩ := (hs.keep SA).at_ hz
              refine ⟨_, rfl, _, rfl, _, rfl, _, rfl, _, _, _, _, rfl, rfl, SqT.of er4, at_of (j := 0) (v := z) rfl hz, _, rfl, t, ns, 0, 0, z, sz, rfl, hT.keep SA, isz, knz, fun u hu => (k1 ((0 : Nat) : Int) u (due_word both c60 hb ((word_row hx e o esz).trans hu) hi)).mono SA, fun hn H5 S5 => ⟨_, _, rfl, S4.trans S5, fun a ha => ?_⟩⟩
              rcases Nat.lt_or_ge a (0) with ha2 | ha2
              · exact hb a ha2
              · obtain rfl : a = 0 := by omega
                rw [word_row hx e o esz]
                exact hn
            | succ i =>
              refine ifD (fun _ => ?_) (fun c => absurd (show (0 : Int) < ((i + 1 : Nat) : Int) by omega) c)
              obtain ⟨y, hy⟩ : ∃ y, gs[i]? = some y := ⟨gs[i], List.getElem?_eq_getElem (by omega)⟩
              have wi : wholeB y 0 1000000000 = true := by
                cases ey : wholeB y 0 1000000000 with
                | true => rfl
                | false =>
                  have := hb i (by omega)
                  rw [word_label hy ey] at this
                  cases this
              obtain ⟨a, rfl, _, _⟩ := whole_int wi
              have oo := ord_ints hy hx
              refine ⟨_, rfl, _, rfl, _, rfl, _, _, rfl, rfl, _, _, _, _, rfl, rfl, SqT.of eg4, at_of (j := i) (v := .int a) (by omega) hy, _, _, rfl, rfl, _, rfl, ?_⟩
              refine ifD (fun c => ⟨_, rfl, mkO_of2 ((k1 ((i + 1 : Nat) : Int) "order" (due_word both c60 hb (word_order hx e (oo.trans (decide_eq_true c))) hi)).mono SA)⟩) (fun c => ?_)
              have o : ordB gs (i + 1) = false := by
                rw [oo]
                exact decide_eq_false c
              refine ⟨_, rfl, _, rfl, pr, rs, rfl, .inr (SqT.of er4), _, _, rfl, rfl, _, rfl, ?_⟩
              refine ifD (fun c => ⟨_, rfl, mkO_of2 ((k1 (((i + 1) : Nat) : Int) "row" (due_word both c60 hb (word_norow hx e o (List.getElem?_eq_none_iff.mpr (by omega))) hi)).mono SA)⟩) (fun c => ?_)
              obtain ⟨z, hz⟩ : ∃ z, rs[(i + 1)]? = some z := ⟨rs[(i + 1)]'(by omega), List.getElem?_eq_getElem (by omega)⟩
              obtain ⟨sz, esz, isz, knz⟩ := (hs.keep SA).at_ hz
              refine ⟨_, rfl, _, rfl, _, rfl, _, rfl, _, _, _, _, rfl, rfl, SqT.of er4, at_of (j := (i + 1)) (v := z) rfl hz, _, rfl, t, ns, (i + 1), (i + 1), z, sz, rfl, hT.keep SA, isz, knz, fun u hu => (k1 (((i + 1) : Nat) : Int) u (due_word both c60 hb ((word_row hx e o esz).trans hu) hi)).mono SA, fun hn H5 S5 => ⟨_, _, rfl, S4.trans S5, fun a ha => ?_⟩⟩
              rcases Nat.lt_or_ge a ((i + 1)) with ha2 | ha2
              · exact hb a ha2
              · obtain rfl : a = (i + 1) := by omega
                rw [word_row hx e o esz]
                exact hn
        · rintro σ H' ⟨v3, v4, rfl, S3, hb⟩
          have eg3 := S3 _ _ eg
          have er3 := S3 _ _ er
          refine ⟨_, rfl, pr, rs, rfl, .inr (SqT.of er3), _, rfl, pg, gs, rfl, .inr (SqT.of eg3), _, _, rfl, rfl, _, rfl, ?_⟩
          refine ifD (fun c => ⟨_, rfl, pg, gs, rfl, .inr (SqT.of eg3), mkO_of2 ((k1 _ "rows" (due_rows both c60 hb (by show gs.length < rs.length; omega))).mono (S2.trans S3))⟩) (fun c => ?_)
          exact k2 (due_ok both c60 hb (by show ¬ gs.length < rs.length; omega)) _ (S2.trans S3)
end
end J

set_option Elab.async false
set_option linter.all false
set_option maxRecDepth 100000
set_option maxHeartbeats 4000000
namespace J
open PySem PySem.Spec PyProof.Rows L2
/-! ### the table -/
/-- k lists of n things each at T, new; f tells what stands where -/
def Grid (H0 H : Hp) (T : Addr) (n k : Nat) (f : Nat → Nat → V) : Prop := Same H0 H ∧ H0 T = none ∧ ∃ gs : List Addr, gs.length = k ∧ gs.Nodup ∧ H T = some (.lst (gs.map V.ref)) ∧ ∀ (a : Nat) (g : Addr), gs[a]? = some g → H0 g = none ∧ g ≠ T ∧ ∃ xs, H g = some (.lst xs) ∧ xs.length = n ∧ ∀ b, b < n → xs[b]? = some (f a b)
theorem Grid.new {H0 H : Hp} {T z : Addr} {n k : Nat} {f : Nat → Nat → V} {o : HO} (g : Grid H0 H T n k f) (hz : H z = none) : Grid H0 (upd H z o) T n k f := by
  obtain ⟨S, t0, gs, e, nd, hT, hg⟩ := g
  refine ⟨S.trans (new_same hz), t0, gs, e, nd, by rw [upd_ne (ne_of_none hT hz)]; exact hT, fun a c ha => ?_⟩
  obtain ⟨a0, aT, xs, ea, el, ef⟩ := hg a c ha
  exact ⟨a0, aT, xs, by rw [upd_ne (ne_of_none ea hz)]; exact ea, el, ef⟩
theorem Grid.congr {H0 H : Hp} {T : Addr} {n k : Nat} {f f' : Nat → Nat → V} (g : Grid H0 H T n k f) (h : ∀ a b, a < k → b < n → f a b = f' a b) : Grid H0 H T n k f' := by
  obtain ⟨S, t0, gs, e, nd, hT, hg⟩ := g
  refine ⟨S, t0, gs, e, nd, hT, fun a c ha => ?_⟩
  obtain ⟨a0, aT, xs, ea, el, ef⟩ := hg a c ha
  have hk : a < k := by rw [← e]; exact (List.getElem?_eq_some_iff.mp ha).1
  exact ⟨a0, aT, xs, ea, el, fun b hb => by rw [ef b hb, h a b hk hb]⟩
theorem Grid.at_ {H0 H : Hp} {T : Addr} {n k j : Nat} {f : Nat → Nat → V} (g : Grid H0 H T n k f) (hj : j < k) : ∃ (a : Addr) (xs L : List V), H T = some (.lst L) ∧ L[j]? = some (.ref a) ∧ H a = some (.lst xs) ∧ xs.length = n ∧ (∀ b, b < n → xs[b]? = some (f j b)) ∧ ∀ (b : Nat) (v : V), b < n → Grid H0 (upd H a (.lst (xs.set b v))) T n k (fun a' b' => if a' = j ∧ b' = b then v else f a' b') := by
  obtain ⟨S, t0, gs, e, nd, hT, hg⟩ := g
  have hj' : j < gs.length := by omega
  have ej := List.getElem?_eq_getElem hj'
  obtain ⟨a0, aT, xs, ea, el, ef⟩ := hg j _ ej
  refine ⟨gs[j], xs, _, hT, by rw [List.getElem?_map, ej]; rfl, ea, el, ef, fun b v hb => ⟨fun c o ec => ?_, t0, gs, e, nd, by rw [upd_ne aT.symm]; exact hT, fun c d hc => ?_⟩⟩
  · rw [upd_ne (ne_of_none ec a0)]
    exact S _ _ ec
  · obtain ⟨c0, cT, zs, ec, cl, cf⟩ := hg c d hc
    by_cases q : c = j
    · subst q
      obtain rfl : d = gs[c] := by rw [ej] at hc; exact (Option.some.inj hc).symm
      refine ⟨c0, cT, xs.set b v, upd_same, by rw [List.length_set]; exact el, fun b' hb' => ?_⟩
      by_cases w : b' = b
      · subst w
        rw [List.getElem?_set_self (by omega)]
        show some v = some (if c = c ∧ b' = b' then v else f c b')
        rw [if_pos ⟨rfl, rfl⟩]
      · rw [List.getElem?_set_ne (fun z => w z.symm)]
        show xs[b']? = some (if c = c ∧ b' = b then v else f c b')
        rw [if_neg (fun z => w z.2)]
        exact ef b' hb'
    · have nd2 : d ≠ gs[j] := fun z => q (nd_ix nd hc (by rw [z]; exact ej))
      refine ⟨c0, cT, zs, by rw [upd_ne nd2]; exact ec, cl, fun b' hb' => ?_⟩
      show zs[b']? = some (if c = j ∧ b' = b then v else f c b')
      rw [if_neg (fun z => q z.1)]
      exact cf b' hb'
theorem Grid.ne_new {H0 H : Hp} {T z : Addr} {n k : Nat} {f : Nat → Nat → V} (g : Grid H0 H T n k f) (hz : H z = none) : z ≠ T := by
  obtain ⟨_, _, gs, _, _, hT, _⟩ := g
  exact (ne_of_none hT hz).symm
theorem Grid.push {H0 H H' : Hp} {T z : Addr} {n k : Nat} {f : Nat → Nat → V} {ys : List V} (g : Grid H0 H T n k f) (hn : H z = none) (S' : Same H H') (hz : H' z = some (.lst ys)) (hl : ys.length = n) (hf : ∀ b, b < n → ys[b]? = some (f k b)) : ∃ acc : List V, H' T = some (.lst acc) ∧ acc.length = k ∧ Grid H0 (upd H' T (.lst (acc ++ [.ref z]))) T n (k + 1) f := by
  have zT := g.ne_new hn
  obtain ⟨S, t0, gs, e, nd, hT, hg⟩ := g
  have z0 := Same.free S hn
  have zg : z ∉ gs := fun q => by
    obtain ⟨a, ha⟩ := List.getElem?_of_mem q
    obtain ⟨_, _, xs, ea, _⟩ := hg a z ha
    rw [hn] at ea
    cases ea
  refine ⟨_, S' _ _ hT, by rw [List.length_map]; exact e, fun b o eb => ?_, t0, gs ++ [z], by rw [List.length_append, e]; rfl, ?_, by rw [upd_same, List.map_append]; rfl, fun a c ha => ?_⟩
  · rw [upd_ne (ne_of_none eb t0)]
    exact S' _ _ (S _ _ eb)
  · rw [List.nodup_append]
    exact ⟨nd, by simp, fun a ha b hb => by rw [List.mem_singleton] at hb; subst hb; exact fun q => zg (q ▸ ha)⟩
  · rcases Nat.lt_or_ge a gs.length with q | q
    · rw [List.getElem?_append_left q] at ha
      obtain ⟨a0, aT, xs, ea, el, ef⟩ := hg a c ha
      exact ⟨a0, aT, xs, by rw [upd_ne aT]; exact S' _ _ ea, el, ef⟩
    · have hq : a = k := by
        have := (List.getElem?_eq_some_iff.mp ha).1
        rw [List.length_append] at this
        have l : [z].length = 1 := rfl
        omega
      subst hq
      rw [← e, List.getElem?_append_right (Nat.le_refl _), Nat.sub_self] at ha
      obtain rfl : z = c := Option.some.inj ha
      exact ⟨z0, zT, ys, by rw [upd_ne zT]; exact hz, hl, hf⟩
/-- the tie at a, b of the table over rows tss -/
def cell (bs : List Int) (tss : List (List Int)) (a b : Nat) : V :=
  if b < a then match (tss[a]?.getD [])[b]? with
    | some t => .int t
    | none => .non
  else if a < b then match (tss[b]?.getD [])[a]? with
    | some t => .int (bs[t.toNat]?.getD 0)
    | none => .non
  else .non
/-- the table as it stands at place j, i of the loops -/
def cellAt (bs : List Int) (tss : List (List Int)) (j i a b : Nat) : V := if max a b < j ∨ (max a b = j ∧ min a b < i) then cell bs tss a b else .non
theorem cellAt_next {bs : List Int} {tss : List (List Int)} {j n a b : Nat} (h : ∀ r, tss[j]? = some r → r.length ≤ n) (hj : j < tss.length ∨ True) (hn : n = j) : cellAt bs tss j n a b = cellAt bs tss (j + 1) 0 a b := by
  subst hn
  unfold cellAt
  by_cases c : max a b < n ∨ (max a b = n ∧ min a b < n)
  · rw [if_pos c, if_pos (by omega)]
  · rw [if_neg c]
    by_cases d : max a b < n + 1 ∨ (max a b = n + 1 ∧ min a b < 0)
    · rw [if_pos d]
      have e1 : a = n := by omega
      have e2 : b = n := by omega
      subst e1
      subst e2
      unfold cell
      rw [if_neg (Nat.lt_irrefl _), if_neg (Nat.lt_irrefl _)]
    · rw [if_neg d]
theorem cellAt_step {bs : List Int} {tss : List (List Int)} {j i a b : Nat} {r : List Int} {t : Int} (hr : tss[j]? = some r) (ht : r[i]? = some t) (hi : i < j) :
    (if a = i ∧ b = j then V.int (bs[t.toNat]?.getD 0) else if a = j ∧ b = i then V.int t else cellAt bs tss j i a b) = cellAt bs tss j (i + 1) a b := by
  unfold cellAt
  by_cases c : a = i ∧ b = j
  · obtain ⟨rfl, rfl⟩ := c
    rw [if_pos ⟨rfl, rfl⟩, if_pos (by omega)]
    unfold cell
    rw [if_neg (by omega), if_pos hi, hr]
    show _ = (match r[a]? with | some t => V.int (bs[t.toNat]?.getD 0) | none => V.non)
    rw [ht]
  · rw [if_neg c]
    by_cases d : a = j ∧ b = i
    · obtain ⟨rfl, rfl⟩ := d
      rw [if_pos ⟨rfl, rfl⟩, if_pos (by omega)]
      unfold cell
      rw [if_pos hi, hr]
      show _ = (match r[b]? with | some t => V.int t | none => V.non)
      rw [ht]
    · rw [if_neg d]
      by_cases e : max a b < j ∨ (max a b = j ∧ min a b < i)
      · rw [if_pos e, if_pos (by omega)]
      · rw [if_neg e, if_neg (by omega)]
theorem ixN_in {n j : Nat} (hj : j < n) : ixN n (j : Int) = some j := by
  unfold ixN
  rw [if_pos (by omega), if_pos (by omega)]
  rfl
abbrev s_table_of : Stmt := top 21
theorem sc_table_of : FnScope ["ties", "rows", "table", "j", "row", "i", "tie", "_", "line"] ["ties", "rows"] (defScope s_table_of) := ⟨rfl, rfl, rfl, by decide +kernel, rfl, by decide +kernel, by decide +kernel⟩
/-- at p the rows of ties: tuples, each as long as its place -/
def RowsAt (H : Hp) (p : Addr) (m : Nat) (ps : List Addr) (tss : List (List Int)) : Prop := H p = some (.tup (ps.map V.ref)) ∧ ps.length = tss.length ∧ ∀ (j : Nat) (a : Addr) (ts : List Int), ps[j]? = some a → tss[j]? = some ts → H a = some (.tup (ts.map V.int)) ∧ ts.length = j ∧ ∀ t ∈ ts, 0 ≤ t ∧ t < (m : Nat)
theorem RowsAt.keep {H H' : Hp} {p : Addr} {m : Nat} {ps : List Addr} {tss : List (List Int)} (h : RowsAt H p m ps tss) (S : Same H H') : RowsAt H' p m ps tss :=
  ⟨S _ _ h.1, h.2.1, fun j a ts e e2 => by obtain ⟨x, y⟩ := h.2.2 j a ts e e2; exact ⟨S _ _ x, y⟩⟩
/-- at z the table of the rows tss -/
def TableAt (H : Hp) (z : Addr) (bs : List Int) (tss : List (List Int)) : Prop := ∃ us : List Addr, H z = some (.tup (us.map V.ref)) ∧ us.length = tss.length ∧ ∀ (a : Nat) (u : Addr), us[a]? = some u → ∃ xs : List V, H u = some (.tup xs) ∧ xs.length = tss.length ∧ ∀ b, b < tss.length → xs[b]? = some (cell bs tss a b)
theorem TableAt.keep {H H' : Hp} {z : Addr} {bs : List Int} {tss : List (List Int)} (h : TableAt H z bs tss) (S : Same H H') : TableAt H' z bs tss := by
  obtain ⟨us, a, b, c⟩ := h
  refine ⟨us, S _ _ a, b, fun i u e => ?_⟩
  obtain ⟨xs, x, y⟩ := c i u e
  exact ⟨xs, S _ _ x, y⟩
def spTable (C : Addr) : Sp := fun vs H Q _ => ∃ (t p : Addr) (ns : List Int) (ps : List Addr) (tss : List (List Int)), vs = [.ref t, .ref p] ∧ TiesAt C H t ns ∧ RowsAt H p ns.length ps tss ∧ ps.length ≤ 60 ∧ ∀ (H' : Hp) (z : Addr), Same H H' → H z = none → TableAt H' z ns tss → Q (.ref z) H'
section
variable {P : Program} {w : World} {K : PySem.W.Frag} {mg : Str → Option Value} {base : Heap}
theorem ok_table_of {f C : Addr} {fd : FuncData} (F : Fun K "_table_of" "_table_of" s_table_of f fd) (TC : TiC K C) (nl : mg "len" = none) (nt : mg "tuple" = none) (ne : mg "enumerate" = none) : FnOk P w K mg base CX0 1 f fd ["ties", "rows"] (spTable C) := by
  refine F.ok sc_table_of (fun vs H Q E h => ?_) (fun cdv A outer s H vs Q E hr h => ?_)
  · obtain ⟨t, p, ns, ps, tss, rfl, _⟩ := h
    rfl
  · obtain ⟨t, p, ns, ps, tss, rfl, hT, hR, h60, k⟩ := h
    have hlen := hR.2.1
    refine ⟨_, (C8.pss_cut 
  (ps_setLc (i := 2) (own := [("_", 7)]) (g := gName 7) rfl sc_table_of.nd rfl rfl (sw_true rfl rfl rfl (by decide +kernel)) (pi_tup (pv 1)) (blkOk_by (own := [("_", 7)]) (N := ["ties", "rows", "table", "j", "row", "i", "tie", "_", "line"]) (sc := defScope s_table_of) (by decide +kernel)) (fun _ _ _ _ _ => pg_name (i := 7) sc_table_of.nd rfl (Or.inl rfl)) (fun _ _ _ _ _ => pts_nil) (fun _ _ _ _ _ => (pe_op op_rep (pe_lst (pa_cons pe_non pa_nil)) (pe_callB (id := "len") (r := rLen K) call_len_seq (by rfl) nl PySem.boot_len (pa_cons (pv 1) pa_nil))))) (pss_cons 
  (ps_for PassesOwn.never rfl (pi_enumT (by rfl) ne (pa_cons (pv 1) pa_nil)) (pg_tup (by rfl) (pgs_cons (pg_name (i := 3) sc_table_of.nd rfl (Or.inl rfl)) (pgs_cons (pg_name (i := 4) sc_table_of.nd rfl (Or.inl rfl)) pgs_nil))) (pss_one 
    (ps_for PassesOwn.never rfl (pi_enumT (by rfl) ne (pa_cons (pv 4) pa_nil)) (pg_tup (by rfl) (pgs_cons (pg_name (i := 5) sc_table_of.nd rfl (Or.inl rfl)) (pgs_cons (pg_name (i := 6) sc_table_of.nd rfl (Or.inl rfl)) pgs_nil))) (pss_cons 
      (ps_asg (pv 6) (pg_sub (pe_ix ix_list (pv 2) (pv 3) (fun _ _ => rfl)) (pv 5) set_list)) (pss_one 
      (ps_asg (pe_ix ix_tup (pe_fld (pv 0) rfl) (pv 6) (fun _ _ => rfl)) (pg_sub (pe_ix ix_list (pv 2) (pv 5) (fun _ _ => rfl)) (pv 3) set_list))))))) (pss_one 
  (ps_ret (pe_callTy call_tuple_of (by rfl) nt (by decide +kernel) (pa_cons (pe_lc (own := [("line", 8)]) (g := gName 8) (by rfl) sc_table_of.nd (pi_list (pv 2)) (blkOk_by (own := [("line", 8)]) (N := ["ties", "rows", "table", "j", "row", "i", "tie", "_", "line"]) (sc := defScope s_table_of) (by decide +kernel)) (fun _ _ _ _ _ => pg_name (i := 8) sc_table_of.nd rfl (Or.inl rfl)) (fun _ _ _ _ _ => pts_nil) (fun _ _ _ _ _ => (pe_callTy (T := "tuple") (r := rTup K) call_tuple_of (by rfl) nt (by decide +kernel) (pa_cons (pv 8) pa_nil)))) pa_nil)))))), ?_⟩
    refine ⟨fun σ' H' => ∃ (T : Addr) (v3 v4 v5 v6 : Option V), σ' = [some (.ref t), some (.ref p), some (.ref T), v3, v4, v5, v6, none, none] ∧ Grid H H' T ps.length ps.length (fun _ _ => .non), ?_, ?_⟩
    · refine ⟨_, rfl, p, rfl, ⟨_, SqT.of hR.1⟩, fun D hD => ?_⟩
      refine lc_tup (K := K) (a := p) (xs := ps.map V.ref) (fun i H1 => Grid H H1 D ps.length i (fun _ _ => .non)) ⟨new_same hD, hD, [], rfl, .nil, upd_same, fun a c ha => nomatch ha⟩ (fun i H1 _ g => SqT.of (g.1 _ _ hR.1)) ?_ ?_
      · rintro i x H1 hx g
        refine ⟨rfl, yesT ?_⟩
        have hi : i < ps.length := by
          have q := (List.getElem?_eq_some_iff.mp hx).1
          rw [List.length_map] at q
          exact q
        refine ⟨(by show 1 ≤ sizeLine; decide), fun q hq => ⟨_, rfl, p, _, rfl, .inr (SqT.of ((new_same hq) _ _ (g.1 _ _ hR.1))), q, _, [.non], rfl, rfl, upd_same, by omega, by rw [List.length_map]; omega, ?_, fun z hz => ?_⟩⟩
        · rw [List.length_map]
          show 1 * ps.length ≤ 16777216
          omega
        · have g1 := g.new (o := .lst [.non]) hq
          have fl : ((List.replicate (((ps.map V.ref).length : Nat) : Int).toNat [V.non]).flatten) = List.replicate ps.length V.non := by
            rw [List.length_map, Int.toNat_natCast]
            generalize ps.length = n
            induction n with
            | zero => rfl
            | succ n ih => rw [List.replicate_succ, List.flatten_cons, ih, List.replicate_succ]; rfl
          rw [fl]
          obtain ⟨acc, ea, el, gg⟩ := g1.push (H' := upd (upd H1 q (.lst [.non])) z (.lst (List.replicate ps.length V.non))) hz (new_same hz) upd_same (by rw [List.length_replicate]) (fun b hb => by rw [List.getElem?_replicate, if_pos hb])
          exact ⟨acc, ea, by rw [el]; show i < 16777216; omega, gg⟩
      · rintro H1 g
        rw [List.length_map] at g
        exact ⟨D, _, _, _, _, rfl, g⟩
    · rintro σ' H' ⟨T, v3, v4, v5, v6, rfl, g⟩
      obtain ⟨dx, tb, hx, htb⟩ := id hT
      refine ⟨_, rfl, p, _, rfl, SqT.of (g.1 _ _ hR.1), for_enumT (K := K) (a := p) (xs := ps.map V.ref) (fun i σ H1 => ∃ v3 v4 v5 v6 : Option V, σ = [some (.ref t), some (.ref p), some (.ref T), v3, v4, v5, v6, none, none] ∧ Grid H H1 T ps.length ps.length (cellAt ns tss i 0))
        ⟨v3, v4, v5, v6, rfl, g.congr (fun a b _ _ => by unfold cellAt; rw [if_neg (by omega)])⟩ (fun i σ H1 _ ⟨_, _, _, _, _, g1⟩ => SqT.of (g1.1 _ _ hR.1)) ?_ ?_⟩
      · rintro j x σ H1 Z hxj ⟨v3, v4, v5, v6, rfl, g1⟩ hZ
        have hj : j < ps.length := by
          have q := (List.getElem?_eq_some_iff.mp hxj).1
          rw [List.length_map] at q
          exact q
        obtain ⟨a, ha, rfl⟩ : ∃ a, ps[j]? = some a ∧ x = V.ref a := by
          rw [List.getElem?_map, List.getElem?_eq_getElem hj] at hxj
          exact ⟨ps[j], List.getElem?_eq_getElem hj, (Option.some.inj hxj).symm⟩
        have hjt : j < tss.length := by omega
        have ets := List.getElem?_eq_getElem hjt
        generalize tss[j] = ts at ets
        obtain ⟨hts, tl, tr⟩ := hR.2.2 j a ts ha ets
        refine ⟨Z, _, rfl, SqT.of upd_same, rfl, _, _, rfl, _, _, rfl, rfl, ?_⟩
        have g2 := g1.new (o := .tup [.int (j : Nat), .ref a]) hZ
        generalize upd H1 Z (.tup [.int (j : Nat), .ref a]) = H2 at g2
        refine ⟨_, rfl, a, _, rfl, SqT.of (g2.1 _ _ hts), for_enumT (K := K) (a := a) (xs := ts.map V.int) (fun i σ H1 => ∃ v5 v6 : Option V, σ = [some (.ref t), some (.ref p), some (.ref T), some (.int (j : Nat)), some (.ref a), v5, v6, none, none] ∧ Grid H H1 T ps.length ps.length (cellAt ns tss j i))
          ⟨_, _, rfl, g2⟩ (fun i σ H1 _ ⟨_, _, _, g1⟩ => SqT.of (g1.1 _ _ hts)) ?_ ?_⟩
        · rintro i y σ H3 Z2 hyi ⟨v5, v6, rfl, g3⟩ hZ2
          have hi : i < ts.length := by
            have q := (List.getElem?_eq_some_iff.mp hyi).1
            rw [List.length_map] at q
            exact q
          obtain ⟨c, hc0, hc, rfl⟩ : ∃ c, ts[i]? = some c ∧ c ∈ ts ∧ y = V.int c := by
            rw [List.getElem?_map, List.getElem?_eq_getElem hi] at hyi
            exact ⟨ts[i], List.getElem?_eq_getElem hi, List.getElem_mem hi, (Option.some.inj hyi).symm⟩
          obtain ⟨c0, c1⟩ := tr c hc
          refine ⟨Z2, _, rfl, SqT.of upd_same, rfl, _, _, rfl, _, _, rfl, rfl, ?_⟩
          have g4 := g3.new (o := .tup [.int (i : Nat), .int c]) hZ2
          generalize upd H3 Z2 (.tup [.int (i : Nat), .int c]) = H4 at g4
          obtain ⟨b1, xs1, L1, e1, e2, e3, e4, _, e5⟩ := g4.at_ hj
          have g5 := e5 i (.int c) (by omega)
          refine ⟨_, rfl, _, rfl, _, rfl, _, _, _, _, rfl, rfl, SqL.of e1, at_of (j := j) rfl e2, _, rfl, b1, xs1, _, i, rfl, rfl, e3, by rw [e4]; exact ixN_in (by omega), ?_⟩
          generalize upd H4 b1 (.lst (xs1.set i (.int c))) = H5 at g5
          have hx5 := g5.1 _ _ hx
          have ht5 := g5.1 _ _ htb
          obtain ⟨b2, xs2, L2, f1, f2, f3, f4, _, f5⟩ := g5.at_ (j := i) (by omega)
          have hnc : ns[c.toNat]? = some (ns[c.toNat]'(by omega)) := List.getElem?_eq_getElem (by omega)
          have hcn : (ns.map V.int)[c.toNat]? = some (V.int (ns[c.toNat]'(by omega))) := by
            rw [List.getElem?_map, hnc]
            rfl
          refine ⟨_, rfl, t, C, dx, _, _, rfl, hx5, TC.cl, TC.nB, tf_backs _ _, _, rfl, _, _, _, _, rfl, rfl, SqT.of ht5, at_of (j := c.toNat) (by omega) hcn, ?_⟩
          refine ⟨_, rfl, _, rfl, _, _, _, _, rfl, rfl, SqL.of f1, at_of (j := i) rfl f2, _, rfl, b2, xs2, _, j, rfl, rfl, f3, by rw [f4]; exact ixN_in (by omega), ?_⟩
          refine ⟨_, _, rfl, (f5 j _ hj).congr fun a' b' _ _ => ?_⟩
          have q := cellAt_step (bs := ns) (a := a') (b := b') ets hc0 (by omega)
          rw [hnc] at q
          exact q
        · rintro σ H3 ⟨v5, v6, rfl, g3⟩
          rw [List.length_map] at g3
          exact ⟨_, _, _, _, rfl, g3.congr fun a' b' _ _ => cellAt_next (fun r er => by rw [ets] at er; obtain rfl := Option.some.inj er; exact Nat.le_refl _) (.inr trivial) (by omega)⟩
      · rintro σ H1 ⟨v3, v4, v5, v6, rfl, ⟨S1, t0, gs, el, _, eT, hg⟩⟩
        rw [List.length_map] at hg
        have fin : ∀ a b, a < ps.length → b < ps.length → cellAt ns tss ps.length 0 a b = cell ns tss a b := fun a b ha hb => by
          unfold cellAt
          rw [if_pos (by omega)]
        refine ⟨_, rfl, T, rfl, ⟨_, SqL.of eT⟩, fun D hD => ?_⟩
        refine lc_list (K := K) (a := T) (xs := gs.map V.ref) (fun i H2 => Same H1 H2 ∧ H1 D = none ∧ ∃ us : List Addr, us.length = i ∧ H2 D = some (.lst (us.map V.ref)) ∧ ∀ (a : Nat) (u : Addr), us[a]? = some u → u ≠ D ∧ ∃ xs : List V, H2 u = some (.tup xs) ∧ xs.length = ps.length ∧ ∀ b, b < ps.length → xs[b]? = some (cell ns tss a b)) ⟨new_same hD, hD, [], rfl, upd_same, fun a u e => nomatch e⟩ (fun i H2 _ ⟨S2, _⟩ => SqL.of (S2 _ _ eT)) ?_ ?_
        · rintro i x H2 hxi ⟨S2, D0, us, ul, ea, hu⟩
          have hi : i < gs.length := by
            have q := (List.getElem?_eq_some_iff.mp hxi).1
            rw [List.length_map] at q
            exact q
          obtain ⟨b, hb, rfl⟩ : ∃ b, gs[i]? = some b ∧ x = V.ref b := by
            rw [List.getElem?_map, List.getElem?_eq_getElem hi] at hxi
            exact ⟨gs[i], List.getElem?_eq_getElem hi, (Option.some.inj hxi).symm⟩
          obtain ⟨_, _, xs, eb, xl, xf⟩ := hg i b hb
          refine ⟨rfl, yesT ?_⟩
          refine ⟨_, rfl, b, xs, rfl, .inl ⟨SqL.of (S2 _ _ eb), fun z hz => ?_⟩⟩
          have nz : D ≠ z := ne_of_none ea hz
          refine ⟨us.map V.ref, by rw [upd_ne nz]; exact ea, by rw [List.length_map]; show us.length < 16777216; omega, fun c o ec => ?_, D0, us ++ [z], by rw [List.length_append, ul]; rfl, by rw [upd_same, List.map_append]; rfl, fun a u e => ?_⟩
          · rw [upd_ne (ne_of_none ec D0), upd_ne (ne_of_none (S2 _ _ ec) hz)]
            exact S2 _ _ ec
          · rcases Nat.lt_or_ge a us.length with q | q
            · rw [List.getElem?_append_left q] at e
              obtain ⟨n1, ys, w1, w2⟩ := hu a u e
              exact ⟨n1, ys, by rw [upd_ne n1, upd_ne (ne_of_none w1 hz)]; exact w1, w2⟩
            · have hq : a = i := by
                have := (List.getElem?_eq_some_iff.mp e).1
                rw [List.length_append] at this
                have l : [z].length = 1 := rfl
                omega
              subst hq
              rw [← ul, List.getElem?_append_right (Nat.le_refl _), Nat.sub_self] at e
              obtain rfl : z = u := Option.some.inj e
              refine ⟨nz.symm, xs, by rw [upd_ne nz.symm, upd_same], xl, fun b' hb' => ?_⟩
              rw [xf b' hb', fin a b' (by omega) hb']
        · rintro H2 ⟨S2, D0, us, ul, ea, hu⟩
          refine ⟨D, _, rfl, .inl ⟨SqL.of ea, fun z hz => ?_⟩⟩
          rw [List.length_map] at ul
          refine k _ z ((S1.trans S2).trans (new_same hz)) (Same.free (S1.trans S2) hz) ⟨us, upd_same, by omega, fun a u e => ?_⟩
          obtain ⟨_, xs, w1, w2, w3⟩ := hu a u e
          exact ⟨xs, (new_same hz) _ _ w1, by omega, fun b hb => w3 b (by omega)⟩
end
end J

set_option Elab.async false
set_option linter.all false
set_option maxRecDepth 100000
set_option maxHeartbeats 4000000
namespace J
open PySem PySem.Spec PyProof.Rows L2
/-! ### a company is made -/
theorem dc_enumT {K : PySem.W.Frag} {a : Addr} {xs : List V} {g : TG} {tt : TT} {tk tv : TE} {vs : List Nat} {σ : L2.St} {H1 : Hp} {D : Addr} {Qd : Hp → Prop} (Pv : Nat → Hp → Prop) (h0 : Pv 0 (upd H1 D (.dK []))) (hl : ∀ i H, i ≤ xs.length → Pv i H → SqT K H a xs)
    (hs : ∀ i x H T, xs[i]? = some x → Pv i H → H T = none → g (.ref T) (wipe σ vs) (upd H T (.tup [.int (i : Nat), x])) fun σ2 H2 => wipe σ2 vs = wipe σ vs ∧ tt σ2 H2 fun b H3 =>
      if b = true then tk σ2 H3 fun y H4 => tv σ2 H4 fun z H5 => ∃ kvs k, y = kV k ∧ H5 D = some (.dK kvs) ∧ kvs.length < sizeLine ∧ Pv (i + 1) (upd H5 D (.dK (putK kvs k z))) else Pv (i + 1) H3) (hd : ∀ H, Pv xs.length H → Qd H) :
    ∃ W : Nat → Nat → Hp → Prop, (∃ m, W 0 m (upd H1 D (.dK []))) ∧ ∀ i m H, W i m H →
      ((Itet K a).stop i H ∧ Qd H) ∨ ((Itet K a).go i H ∧ ∃ Nx : Hp → Prop, (∀ H', Nx H' → ∃ m', m' < m ∧ W (i + 1) m' H') ∧ ∀ x H', (Itet K a).yld i H x H' → g x (wipe σ vs) H' fun σ2 H2 => wipe σ2 vs = wipe σ vs ∧ tt σ2 H2 fun b H3 =>
        if b = true then tk σ2 H3 fun y H4 => tv σ2 H4 fun z H5 => ∃ kvs k, y = kV k ∧ H5 D = some (.dK kvs) ∧ kvs.length < sizeLine ∧ Nx (upd H5 D (.dK (putK kvs k z))) else Nx H3) := by
  refine ⟨fun i m H => m = xs.length - i ∧ i ≤ xs.length ∧ Pv i H, ⟨xs.length, by simp, Nat.zero_le _, h0⟩, ?_⟩
  rintro i m H ⟨rfl, hi, p⟩
  have q := hl i H hi p
  by_cases hlt : i < xs.length
  · refine .inr ⟨⟨xs, xs[i], q, by simp [hlt]⟩, Pv (i + 1), fun H' p' => ⟨xs.length - (i + 1), by omega, rfl, hlt, p'⟩, ?_⟩
    rintro x H' ⟨T, y, rfl, hT, rfl, hy⟩
    exact hs i y H T (hy xs q) p hT
  · have e : i = xs.length := by omega
    subst e
    exact .inl ⟨⟨xs, q, rfl⟩, hd H p⟩
theorem ints_of : ∀ {xs : List V}, (∀ x ∈ xs, ∃ i, x = V.int i) → ∃ is : List Int, xs = is.map V.int
  | [], _ => ⟨[], rfl⟩
  | x :: xs, h => by
    obtain ⟨i, rfl⟩ := h x (List.mem_cons_self ..)
    obtain ⟨is, rfl⟩ := ints_of (xs := xs) fun y hy => h y (List.mem_cons_of_mem _ hy)
    exact ⟨i :: is, rfl⟩
/-- what a due of none says -/
structure GoodC (m : Nat) (g r : Sh) (ss : List Sh) : Prop where
  sq : ((g.isL || g.isT) && (r.isL || r.isT)) = true
  le : (items g).length ≤ 60
  ln : (items r).length ≤ (items g).length
  wd : ∀ j, j < (items g).length → wordC m (items g) ss j = none
theorem scan_get {f : Nat → Option Str} : ∀ {n : Nat}, scan f n = none → ∀ j, j < n → f j = none
  | 0, _, j, hj => absurd hj (Nat.not_lt_zero j)
  | n + 1, h, j, hj => by
    have h' : (match scan f n with | some r => some r | none => (f n).map fun w => (n, w)) = none := h
    cases e : scan f n with
    | some r => rw [e] at h'; cases h'
    | none =>
      rw [e] at h'
      rcases Nat.lt_or_ge j n with hl | hl
      · exact scan_get e j hl
      · obtain rfl : j = n := by omega
        cases e2 : f j with
        | none => rfl
        | some w => rw [e2] at h'; cases h'
theorem goodC_of {m : Nat} {g r : Sh} {ss : List Sh} (h : dueC m g r ss = none) : GoodC m g r ss := by
  unfold dueC at h
  by_cases h1 : ((g.isL || g.isT) && (r.isL || r.isT)) = true
  · rw [if_pos h1] at h
    by_cases h2 : (items g).length ≤ 60
    · rw [if_pos h2] at h
      cases e : scan (wordC m (items g) ss) (items g).length with
      | some p =>
        rw [e] at h
        cases h
      | none =>
        rw [e] at h
        have h' : (if (items g).length < (items r).length then some ((((items g).length : Nat) : Int), ("rows" : Str)) else none) = none := h
        by_cases h3 : (items g).length < (items r).length
        · rw [if_pos h3] at h'; cases h'
        · exact ⟨h1, h2, by omega, scan_get e⟩
    · rw [if_neg h2] at h; cases h
  · rw [if_neg h1] at h; cases h
theorem rowW_good {m n : Nat} {s : Sh} (h : rowW m n s = none) : (s.isL || s.isT) = true ∧ ∃ ts : List Int, items s = ts.map V.int ∧ ts.length = n ∧ ∀ t ∈ ts, 0 ≤ t ∧ t < (m : Nat) := by
  unfold rowW at h
  by_cases h1 : (s.isL || s.isT) = true
  · rw [if_pos h1] at h
    by_cases h2 : (items s).length = n
    · rw [if_pos h2] at h
      by_cases h3 : ∀ x ∈ items s, wholeB x 0 ((m : Nat) - 1) = true
      · obtain ⟨ts, e⟩ := ints_of fun x hx => let ⟨b, e, _⟩ := whole_int (h3 x hx); ⟨b, e⟩
        refine ⟨h1, ts, e, by rw [← h2, e, List.length_map], fun t ht => ?_⟩
        have q : V.int t ∈ items s := by rw [e]; exact List.mem_map.mpr ⟨t, ht, rfl⟩
        obtain ⟨b, eb, b0, b1⟩ := whole_int (h3 _ q)
        have : t = b := by injection eb
        subst this
        exact ⟨b0, by omega⟩
      · rw [if_neg h3] at h; cases h
    · rw [if_neg h2] at h; cases h
  · rw [if_neg h1] at h; cases h
theorem word_good {m j : Nat} {gs : List V} {ss : List Sh} {x : V} (hx : gs[j]? = some x) (h : wordC m gs ss j = none) : wholeB x 0 1000000000 = true ∧ ∃ s, ss[j]? = some s ∧ rowW m j s = none := by
  unfold wordC at h
  rw [hx] at h
  have h' : (if wholeB x 0 1000000000 = true then if ordB gs j = true then some ("order" : Str) else match ss[j]? with | none => some ("row" : Str) | some s => rowW m j s else some ("label" : Str)) = none := h
  by_cases h1 : wholeB x 0 1000000000 = true
  · rw [if_pos h1] at h'
    by_cases h2 : ordB gs j = true
    · rw [if_pos h2] at h'; cases h'
    · rw [if_neg h2] at h'
      cases e : ss[j]? with
      | none => rw [e] at h'; cases h'
      | some s => rw [e] at h'; exact ⟨h1, s, rfl, h'⟩
  · rw [if_neg h1] at h'; cases h'
/-- guests are ints -/
theorem GoodC.ints {m : Nat} {g r : Sh} {ss : List Sh} (h : GoodC m g r ss) : ∃ is : List Int, items g = is.map V.int := by
  refine ints_of fun x hx => ?_
  obtain ⟨j, hj⟩ := List.getElem?_of_mem hx
  obtain ⟨w, _⟩ := word_good hj (h.wd j (List.getElem?_eq_some_iff.mp hj).1)
  obtain ⟨b, e, _⟩ := whole_int w
  exact ⟨b, e⟩
theorem GoodC.row {m : Nat} {g r : Sh} {ss : List Sh} (h : GoodC m g r ss) {j : Nat} (hj : j < (items g).length) : ∃ s, ss[j]? = some s ∧ rowW m j s = none :=
  (word_good (List.getElem?_eq_getElem hj) (h.wd j hj)).2
theorem GoodC.full {m : Nat} {g r : Sh} {ss : List Sh} (h : GoodC m g r ss) : (items g).length ≤ ss.length := by
  rcases Nat.lt_or_ge ss.length (items g).length with c | c
  · obtain ⟨s, es, _⟩ := h.row (j := ss.length) c
    have := (List.getElem?_eq_some_iff.mp es).1
    omega
  · exact c
def toInts (xs : List V) : List Int := xs.filterMap fun | .int i => some i | _ => none
theorem toInts_map (is : List Int) : toInts (is.map V.int) = is := by
  unfold toInts
  rw [List.filterMap_map]
  exact List.filterMap_some
theorem GoodC.tss {m : Nat} {g r : Sh} {ss : List Sh} (h : GoodC m g r ss) (hl : ss.length ≤ (items g).length) : ∃ tss : List (List Int), tss.length = ss.length ∧ ∀ (j : Nat) (s : Sh) (ts : List Int), ss[j]? = some s → tss[j]? = some ts → items s = ts.map V.int ∧ ts.length = j ∧ ∀ t ∈ ts, 0 ≤ t ∧ t < (m : Nat) := by
  refine ⟨ss.map fun s => toInts (items s), by rw [List.length_map], fun j s ts es ets => ?_⟩
  have hj : j < ss.length := (List.getElem?_eq_some_iff.mp es).1
  rw [List.getElem?_map, es] at ets
  have q : toInts (items s) = ts := Option.some.inj ets
  obtain ⟨s', es', ew⟩ := h.row (j := j) (by omega)
  rw [es] at es'
  obtain rfl := Option.some.inj es'
  obtain ⟨_, ts', e1, e2, e3⟩ := rowW_good ew
  rw [e1, toInts_map] at q
  subst q
  exact ⟨e1, e2, e3⟩
/-- the class Company in the written part -/
structure CoC (K : PySem.W.Frag) (C : Addr) : Prop where
  cl : Cls K C
  nT : NoAttr K C "ties"
  nG : NoAttr K C "guests"
  nR : NoAttr K C "rows"
  nB : NoAttr K C "table"
  nP : NoAttr K C "_places"
def f1 (t : Addr) : List (Str × V) := putF "ties" (.ref t) []
def f2 (t g : Addr) : List (Str × V) := putF "guests" (.ref g) (f1 t)
def f3 (t g r : Addr) : List (Str × V) := putF "rows" (.ref r) (f2 t g)
def f4 (t g r b : Addr) : List (Str × V) := putF "table" (.ref b) (f3 t g r)
def cf (t g r b p : Addr) : List (Str × V) := putF "_places" (.ref p) (f4 t g r b)
theorem cl1 (t : Addr) : (f1 t).length < 1000 := Nat.lt_of_le_of_lt (length_putF _ _ _) (by decide)
theorem cl2' {f : Str} {v : V} {fs : List (Str × V)} {n : Nat} (h : fs.length ≤ n) : (putF f v fs).length ≤ n + 1 := Nat.le_trans (length_putF _ _ _) (by omega)
theorem cl2 (t g : Addr) : (f2 t g).length < 1000 := Nat.lt_of_le_of_lt (cl2' (n := 1) (cl2' (n := 0) (Nat.le_refl _))) (by decide)
theorem cl3 (t g r : Addr) : (f3 t g r).length < 1000 := Nat.lt_of_le_of_lt (cl2' (n := 2) (cl2' (n := 1) (cl2' (n := 0) (Nat.le_refl _)))) (by decide)
theorem cl4 (t g r b : Addr) : (f4 t g r b).length < 1000 := Nat.lt_of_le_of_lt (cl2' (n := 3) (cl2' (n := 2) (cl2' (n := 1) (cl2' (n := 0) (Nat.le_refl _))))) (by decide)
theorem ne_ties_guests : ¬ (("ties" : Str) = "guests") := by decide +kernel
theorem ne_ties_rows : ¬ (("ties" : Str) = "rows") := by decide +kernel
theorem ne_ties_table : ¬ (("ties" : Str) = "table") := by decide +kernel
theorem ne_ties__places : ¬ (("ties" : Str) = "_places") := by decide +kernel
theorem ne_guests_ties : ¬ (("guests" : Str) = "ties") := by decide +kernel
theorem ne_guests_rows : ¬ (("guests" : Str) = "rows") := by decide +kernel
theorem ne_guests_table : ¬ (("guests" : Str) = "table") := by decide +kernel
theorem ne_guests__places : ¬ (("guests" : Str) = "_places") := by decide +kernel
theorem ne_rows_ties : ¬ (("rows" : Str) = "ties") := by decide +kernel
theorem ne_rows_guests : ¬ (("rows" : Str) = "guests") := by decide +kernel
theorem ne_rows_table : ¬ (("rows" : Str) = "table") := by decide +kernel
theorem ne_rows__places : ¬ (("rows" : Str) = "_places") := by decide +kernel
theorem ne_table_ties : ¬ (("table" : Str) = "ties") := by decide +kernel
theorem ne_table_guests : ¬ (("table" : Str) = "guests") := by decide +kernel
theorem ne_table_rows : ¬ (("table" : Str) = "rows") := by decide +kernel
theorem ne_table__places : ¬ (("table" : Str) = "_places") := by decide +kernel
theorem ne__places_ties : ¬ (("_places" : Str) = "ties") := by decide +kernel
theorem ne__places_guests : ¬ (("_places" : Str) = "guests") := by decide +kernel
theorem ne__places_rows : ¬ (("_places" : Str) = "rows") := by decide +kernel
theorem ne__places_table : ¬ (("_places" : Str) = "table") := by decide +kernel
theorem f3_rows (t g r : Addr) : (f3 t g r).lookup ("rows" : Str) = some (.ref r) := by
  unfold f3
  rw [lookup_putF, if_pos rfl]
theorem f4_guests (t g r b : Addr) : (f4 t g r b).lookup ("guests" : Str) = some (.ref g) := by
  unfold f4 f3 f2
  rw [lookup_putF, if_neg ne_guests_table, lookup_putF, if_neg ne_guests_rows, lookup_putF, if_pos rfl]
theorem cf_guests (t g r b p : Addr) : (cf t g r b p).lookup ("guests" : Str) = some (.ref g) := by
  unfold cf
  rw [lookup_putF, if_neg ne_guests__places, f4_guests]
theorem cf_rows (t g r b p : Addr) : (cf t g r b p).lookup ("rows" : Str) = some (.ref r) := by
  unfold cf f4
  rw [lookup_putF, if_neg ne_rows__places, lookup_putF, if_neg ne_rows_table, f3_rows]
theorem TiesAt.ne0 {C CC : Addr} {H : Hp} {x dx t : Addr} {ns : List Int} (h : TiesAt C H t ns) (hx : H x = some (.ins CC dx [])) : t ≠ x := by
  obtain ⟨d, tb, e, _⟩ := h
  refine ne_of e hx fun z => ?_
  injection z with _ _ z
  have q := tf_backs tb (ns.length : Nat)
  rw [z] at q
  cases q
theorem TiesAt.but0 {C : Addr} {H H' : Hp} {x t CC dx : Addr} {ns : List Int} (h : TiesAt C H t ns) (hx : H x = some (.ins CC dx [])) (B : ∀ b o, b ≠ x → H b = some o → H' b = some o) : TiesAt C H' t ns := by
  have nt := h.ne0 hx
  obtain ⟨d, tb, e, e2⟩ := h
  exact ⟨d, tb, B _ _ nt e, B _ _ (ne_of e2 hx (by intro z; cases z)) e2⟩
theorem word_ord {m j : Nat} {gs : List V} {ss : List Sh} {x : V} (hx : gs[j]? = some x) (h : wordC m gs ss j = none) : ordB gs j = false := by
  obtain ⟨w, _⟩ := word_good hx h
  cases e : ordB gs j with
  | false => rfl
  | true => rw [word_order hx w e] at h; cases h
/-- one after another -/
def Asc (is : List Int) : Prop := ∀ (i : Nat) (a b : Int), is[i]? = some a → is[i + 1]? = some b → a < b
theorem Asc.lt {is : List Int} (h : Asc is) : ∀ (d i : Nat) (a b : Int), is[i]? = some a → is[i + 1 + d]? = some b → a < b
  | 0, i, a, b, e1, e2 => h i a b e1 e2
  | d + 1, i, a, b, e1, e2 => by
    have hl := (List.getElem?_eq_some_iff.mp e2).1
    have e3 := List.getElem?_eq_getElem (l := is) (i := i + 1 + d) (by omega)
    have q := Asc.lt h d i a _ e1 e3
    have r := h (i + 1 + d) _ b e3 e2
    omega
theorem Asc.inj {is : List Int} (h : Asc is) {i j : Nat} {a : Int} (e1 : is[i]? = some a) (e2 : is[j]? = some a) : i = j := by
  rcases Nat.lt_trichotomy i j with q | q | q
  · have := h.lt (j - i - 1) i a a e1 (by rw [show i + 1 + (j - i - 1) = j by omega]; exact e2)
    omega
  · exact q
  · have := h.lt (i - j - 1) j a a e2 (by rw [show j + 1 + (i - j - 1) = i by omega]; exact e1)
    omega
theorem GoodC.asc {m : Nat} {g r : Sh} {ss : List Sh} (h : GoodC m g r ss) {is : List Int} (e : items g = is.map V.int) : Asc is := fun i a b e1 e2 => by
  have h1 : (items g)[i]? = some (.int a) := by rw [e]; exact ints_at e1
  have h2 : (items g)[i + 1]? = some (.int b) := by rw [e]; exact ints_at e2
  have o := word_ord h2 (h.wd _ (List.getElem?_eq_some_iff.mp h2).1)
  rw [ord_ints h1 h2] at o
  have := of_decide_eq_false o
  omega
theorem GoodC.labels {m : Nat} {g r : Sh} {ss : List Sh} (h : GoodC m g r ss) {is : List Int} (e : items g = is.map V.int) : ∀ n ∈ is, 0 ≤ n ∧ n ≤ 1000000000 := fun n hn => by
  obtain ⟨j, hj⟩ := List.getElem?_of_mem hn
  have h1 : (items g)[j]? = some (.int n) := by rw [e]; exact ints_at hj
  obtain ⟨w, _⟩ := word_good h1 (h.wd j (List.getElem?_eq_some_iff.mp h1).1)
  obtain ⟨b, eb, b0, b1⟩ := whole_int w
  have : n = b := by injection eb
  omega
/-- where a label stands among the guests -/
def place (is : List Int) (k : Key) : Option V := match k with
  | .inl x => (is.findIdx? fun y => decide (y = x)).map fun j => V.int (j : Nat)
  | .inr _ => none
theorem place_next {is : List Int} {i : Nat} {n : Int} (h : is[i]? = some n) (a : Asc is) (k : Key) : place (is.take (i + 1)) k = if k = .inl n then some (.int (i : Nat)) else place (is.take i) k := by
  have e : is.take (i + 1) = is.take i ++ [n] := by rw [List.take_add_one, h]; rfl
  have hi : i < is.length := (List.getElem?_eq_some_iff.mp h).1
  have hl : (is.take i).length = i := by rw [List.length_take]; omega
  cases k with
  | inr s => rw [if_neg (by intro z; cases z)]; rfl
  | inl x =>
    by_cases c : x = n
    · subst c
      rw [if_pos rfl]
      have no : (is.take i).findIdx? (fun y => decide (y = x)) = none := by
        rw [List.findIdx?_eq_none_iff]
        intro y hy
        obtain ⟨j, hj⟩ := List.getElem?_of_mem hy
        have jl := (List.getElem?_eq_some_iff.mp hj).1
        rw [hl] at jl
        rw [List.getElem?_take_of_lt jl] at hj
        exact decide_eq_false fun q => by subst q; have := a.inj hj h; omega
      show Option.map _ ((is.take (i + 1)).findIdx? _) = _
      rw [e, List.findIdx?_append, no]
      simp [hl]
    · rw [if_neg (fun z => c (by injection z))]
      show ((is.take (i + 1)).findIdx? _).map _ = ((is.take i).findIdx? _).map _
      rw [e, List.findIdx?_append]
      simp [fun z => c (Eq.symm z)]
      cases (is.take i).findIdx? (fun y => decide (y = x)) <;> simp [Ne.symm c]
/-- a company at x: its Ties, its guests, its rows, its table, its places -/
def CompAt (C CC : Addr) (H : Hp) (x : Addr) (ns is : List Int) (tss : List (List Int)) : Prop := ∃ (dx t g r b p : Addr) (ps : List Addr) (kvs : List (Key × V)), H x = some (.ins CC dx (cf t g r b p)) ∧ TiesAt C H t ns ∧ H g = some (.tup (is.map V.int)) ∧ RowsAt H r ns.length ps tss ∧ TableAt H b ns tss ∧ H p = some (.dK kvs) ∧ (∀ k, valV kvs k = place is k) ∧ Asc is ∧ tss.length = is.length ∧ is.length ≤ 60 ∧ ∀ n ∈ is, 0 ≤ n ∧ n ≤ 1000000000
theorem CompAt.keep {C CC : Addr} {H H' : Hp} {x : Addr} {ns is : List Int} {tss : List (List Int)} (h : CompAt C CC H x ns is tss) (S : Same H H') : CompAt C CC H' x ns is tss := by
  obtain ⟨dx, t, g, r, b, p, ps, kvs, a1, a2, a3, a4, a5, a6, a7⟩ := h
  exact ⟨dx, t, g, r, b, p, ps, kvs, S _ _ a1, a2.keep S, S _ _ a3, a4.keep S, a5.keep S, S _ _ a6, a7⟩
abbrev s_Company_init : Stmt := inClass (top 20) 0
theorem sc_Company_init : FnScope ["self", "ties", "guests", "rows", "row", "place", "label"] ["self", "ties", "guests", "rows"] (defScope s_Company_init) := ⟨rfl, rfl, rfl, by decide +kernel, rfl, by decide +kernel, by decide +kernel⟩
def spCompI (C CC CB : Addr) : Sp := fun vs H Q E => ∃ (x dx t : Addr) (ns : List Int) (g r : V) (sg sr : Sh) (ss : List Sh), vs = [.ref x, .ref t, g, r] ∧ H x = some (.ins CC dx []) ∧ TiesAt C H t ns ∧ Is H g sg ∧ Known H (items sg) ∧ Is H r sr ∧ ShAll H (items sr) ss ∧ (items sg).length ≤ 1000 ∧
  (∀ i u, dueC ns.length sg sr ss = some (i, u) → Tells2 H CB "index" "what" (.int i) (.str u) E) ∧ (dueC ns.length sg sr ss = none → ∀ (H' : Hp) (is : List Int) (tss : List (List Int)), (∀ b o, b ≠ x → H b = some o → H' b = some o) → items sg = is.map V.int → Asc is → tss.length = is.length → (∀ (j : Nat) (s : Sh) (ts : List Int), ss[j]? = some s → tss[j]? = some ts → items s = ts.map V.int) → CompAt C CC H' x ns is tss → Q .non H')
section
variable {P : Program} {w : World} {K : PySem.W.Frag} {mg : Str → Option Value} {base : Heap}
theorem ok_Company_init {f C CC CB fK fT : Addr} {fd fdK fdT : FuncData} {dvs : List V} (F : FunD K "__init__" "Company.__init__" (defArgs s_Company_init) (defBody s_Company_init) (defScope s_Company_init) dvs [] f fd) (c : CoC K CC) (nt : mg "tuple" = none) (ne : mg "enumerate" = none)
    (GK : Cal P w K mg base (L2.CX P w) 4 "_check_company" fK fdK ["ties", "guests", "rows"] (spCC C CB)) (GT : Cal P w K mg base CX0 1 "_table_of" fT fdT ["ties", "rows"] (spTable C)) : FnOk P w K mg base (L2.CX P w) 5 f fd ["self", "ties", "guests", "rows"] (spCompI C CC CB) := by
  refine F.ok sc_Company_init (fun vs H Q E h => ?_) (fun cdv A outer s H vs Q E hr h => ?_)
  · obtain ⟨x, dx, t, ns, g, r, sg, sr, ss, rfl, _⟩ := h
    rfl
  · obtain ⟨x, dx, t, ns, g, r, sg, sr, ss, rfl, hx, hT, hg, kg, hrr, hs, lg, k1, k2⟩ := h
    cases sg with
    | sc u =>
      refine ⟨_, (pss_cons 
  (ps_expr (pcal GK hr (passes_call (takes_of rfl rfl rfl rfl) (fun _ _ _ _ h => h)) (pa_cons (pv 1) (pa_cons (pv 2) (pa_cons (pv 3) pa_nil))))) (pss_cons 
  (ps_fld (pv 0) (pv 1) rfl) (pss_cons 
  (ps_fld (pv 0) (pe_callTy (T := "tuple") (r := rTup K) call_tuple_of (by rfl) nt (by decide +kernel) (pa_cons (pv 2) pa_nil)) rfl) (pss_cons 
  (ps_fld (pv 0) (pe_callTy (T := "tuple") (r := rTup K) call_tuple_of (by rfl) nt (by decide +kernel) (pa_cons (pe_lc (own := [("row", 4)]) (g := gName 4) (by rfl) sc_Company_init.nd (pi_list (pv 3)) (blkOk_by (own := [("row", 4)]) (N := ["self", "ties", "guests", "rows", "row", "place", "label"]) (sc := defScope s_Company_init) (by decide +kernel)) (fun _ _ _ _ _ => pg_name (i := 4) sc_Company_init.nd rfl (Or.inl rfl)) (fun _ _ _ _ _ => pts_nil) (fun _ _ _ _ _ => (pe_callTy (T := "tuple") (r := rTup K) call_tuple_of (by rfl) nt (by decide +kernel) (pa_cons (pv 4) pa_nil)))) pa_nil)) rfl) (pss_cons 
  (ps_fld (pv 0) (pcal GT hr pass0 (pa_cons (pv 1) (pa_cons (pe_fld (pv 0) rfl) pa_nil))) rfl) (pss_one 
  (ps_fld (pv 0) (pe_dc (own := [("place", 5), ("label", 6)]) (g := gTup K 2 (gCons (gName 5) (gCons (gName 6) gNil))) (by rfl) sc_Company_init.nd (pi_enumT (by rfl) ne (pa_cons (pe_fld (pv 0) rfl) pa_nil)) (blkOk_by (own := [("place", 5), ("label", 6)]) (N := ["self", "ties", "guests", "rows", "row", "place", "label"]) (sc := defScope s_Company_init) (by decide +kernel)) (fun _ _ _ _ _ => pg_tup (by rfl) (pgs_cons (pg_name (i := 5) sc_Company_init.nd rfl (Or.inl rfl)) (pgs_cons (pg_name (i := 6) sc_Company_init.nd rfl (Or.inl rfl)) pgs_nil))) (fun _ _ _ _ _ => pts_nil) (fun _ _ _ _ _ => pv 6) (fun _ _ _ _ _ => pv 5)) rfl))))))), ?_⟩
      exact ⟨_, rfl, _, rfl, _, rfl, t, ns, g, r, .sc u, sr, ss, rfl, hT, hg, kg, hrr, hs, lg, k1, fun hd => nomatch (goodC_of hd).sq⟩
    | dk =>
      refine ⟨_, (pss_cons 
  (ps_expr (pcal GK hr (passes_call (takes_of rfl rfl rfl rfl) (fun _ _ _ _ h => h)) (pa_cons (pv 1) (pa_cons (pv 2) (pa_cons (pv 3) pa_nil))))) (pss_cons 
  (ps_fld (pv 0) (pv 1) rfl) (pss_cons 
  (ps_fld (pv 0) (pe_callTy (T := "tuple") (r := rTup K) call_tuple_of (by rfl) nt (by decide +kernel) (pa_cons (pv 2) pa_nil)) rfl) (pss_cons 
  (ps_fld (pv 0) (pe_callTy (T := "tuple") (r := rTup K) call_tuple_of (by rfl) nt (by decide +kernel) (pa_cons (pe_lc (own := [("row", 4)]) (g := gName 4) (by rfl) sc_Company_init.nd (pi_list (pv 3)) (blkOk_by (own := [("row", 4)]) (N := ["self", "ties", "guests", "rows", "row", "place", "label"]) (sc := defScope s_Company_init) (by decide +kernel)) (fun _ _ _ _ _ => pg_name (i := 4) sc_Company_init.nd rfl (Or.inl rfl)) (fun _ _ _ _ _ => pts_nil) (fun _ _ _ _ _ => (pe_callTy (T := "tuple") (r := rTup K) call_tuple_of (by rfl) nt (by decide +kernel) (pa_cons (pv 4) pa_nil)))) pa_nil)) rfl) (pss_cons 
  (ps_fld (pv 0) (pcal GT hr pass0 (pa_cons (pv 1) (pa_cons (pe_fld (pv 0) rfl) pa_nil))) rfl) (pss_one 
  (ps_fld (pv 0) (pe_dc (own := [("place", 5), ("label", 6)]) (g := gTup K 2 (gCons (gName 5) (gCons (gName 6) gNil))) (by rfl) sc_Company_init.nd (pi_enumT (by rfl) ne (pa_cons (pe_fld (pv 0) rfl) pa_nil)) (blkOk_by (own := [("place", 5), ("label", 6)]) (N := ["self", "ties", "guests", "rows", "row", "place", "label"]) (sc := defScope s_Company_init) (by decide +kernel)) (fun _ _ _ _ _ => pg_tup (by rfl) (pgs_cons (pg_name (i := 5) sc_Company_init.nd rfl (Or.inl rfl)) (pgs_cons (pg_name (i := 6) sc_Company_init.nd rfl (Or.inl rfl)) pgs_nil))) (fun _ _ _ _ _ => pts_nil) (fun _ _ _ _ _ => pv 6) (fun _ _ _ _ _ => pv 5)) rfl))))))), ?_⟩
      exact ⟨_, rfl, _, rfl, _, rfl, t, ns, g, r, .dk, sr, ss, rfl, hT, hg, kg, hrr, hs, lg, k1, fun hd => nomatch (goodC_of hd).sq⟩
    | lst gs =>
      cases sr with
      | sc u =>
        refine ⟨_, (pss_cons 
  (ps_expr (pcal GK hr (passes_call (takes_of rfl rfl rfl rfl) (fun _ _ _ _ h => h)) (pa_cons (pv 1) (pa_cons (pv 2) (pa_cons (pv 3) pa_nil))))) (pss_cons 
  (ps_fld (pv 0) (pv 1) rfl) (pss_cons 
  (ps_fld (pv 0) (pe_callTy (T := "tuple") (r := rTup K) call_tuple_of (by rfl) nt (by decide +kernel) (pa_cons (pv 2) pa_nil)) rfl) (pss_cons 
  (ps_fld (pv 0) (pe_callTy (T := "tuple") (r := rTup K) call_tuple_of (by rfl) nt (by decide +kernel) (pa_cons (pe_lc (own := [("row", 4)]) (g := gName 4) (by rfl) sc_Company_init.nd (pi_list (pv 3)) (blkOk_by (own := [("row", 4)]) (N := ["self", "ties", "guests", "rows", "row", "place", "label"]) (sc := defScope s_Company_init) (by decide +kernel)) (fun _ _ _ _ _ => pg_name (i := 4) sc_Company_init.nd rfl (Or.inl rfl)) (fun _ _ _ _ _ => pts_nil) (fun _ _ _ _ _ => (pe_callTy (T := "tuple") (r := rTup K) call_tuple_of (by rfl) nt (by decide +kernel) (pa_cons (pv 4) pa_nil)))) pa_nil)) rfl) (pss_cons 
  (ps_fld (pv 0) (pcal GT hr pass0 (pa_cons (pv 1) (pa_cons (pe_fld (pv 0) rfl) pa_nil))) rfl) (pss_one 
  (ps_fld (pv 0) (pe_dc (own := [("place", 5), ("label", 6)]) (g := gTup K 2 (gCons (gName 5) (gCons (gName 6) gNil))) (by rfl) sc_Company_init.nd (pi_enumT (by rfl) ne (pa_cons (pe_fld (pv 0) rfl) pa_nil)) (blkOk_by (own := [("place", 5), ("label", 6)]) (N := ["self", "ties", "guests", "rows", "row", "place", "label"]) (sc := defScope s_Company_init) (by decide +kernel)) (fun _ _ _ _ _ => pg_tup (by rfl) (pgs_cons (pg_name (i := 5) sc_Company_init.nd rfl (Or.inl rfl)) (pgs_cons (pg_name (i := 6) sc_Company_init.nd rfl (Or.inl rfl)) pgs_nil))) (fun _ _ _ _ _ => pts_nil) (fun _ _ _ _ _ => pv 6) (fun _ _ _ _ _ => pv 5)) rfl))))))), ?_⟩
        exact ⟨_, rfl, _, rfl, _, rfl, t, ns, _, _, .lst gs, .sc u, ss, rfl, hT, hg, kg, hrr, hs, lg, k1, fun hd => nomatch (goodC_of hd).sq⟩
      | dk =>
        refine ⟨_, (pss_cons 
  (ps_expr (pcal GK hr (passes_call (takes_of rfl rfl rfl rfl) (fun _ _ _ _ h => h)) (pa_cons (pv 1) (pa_cons (pv 2) (pa_cons (pv 3) pa_nil))))) (pss_cons 
  (ps_fld (pv 0) (pv 1) rfl) (pss_cons 
  (ps_fld (pv 0) (pe_callTy (T := "tuple") (r := rTup K) call_tuple_of (by rfl) nt (by decide +kernel) (pa_cons (pv 2) pa_nil)) rfl) (pss_cons 
  (ps_fld (pv 0) (pe_callTy (T := "tuple") (r := rTup K) call_tuple_of (by rfl) nt (by decide +kernel) (pa_cons (pe_lc (own := [("row", 4)]) (g := gName 4) (by rfl) sc_Company_init.nd (pi_list (pv 3)) (blkOk_by (own := [("row", 4)]) (N := ["self", "ties", "guests", "rows", "row", "place", "label"]) (sc := defScope s_Company_init) (by decide +kernel)) (fun _ _ _ _ _ => pg_name (i := 4) sc_Company_init.nd rfl (Or.inl rfl)) (fun _ _ _ _ _ => pts_nil) (fun _ _ _ _ _ => (pe_callTy (T := "tuple") (r := rTup K) call_tuple_of (by rfl) nt (by decide +kernel) (pa_cons (pv 4) pa_nil)))) pa_nil)) rfl) (pss_cons 
  (ps_fld (pv 0) (pcal GT hr pass0 (pa_cons (pv 1) (pa_cons (pe_fld (pv 0) rfl) pa_nil))) rfl) (pss_one 
  (ps_fld (pv 0) (pe_dc (own := [("place", 5), ("label", 6)]) (g := gTup K 2 (gCons (gName 5) (gCons (gName 6) gNil))) (by rfl) sc_Company_init.nd (pi_enumT (by rfl) ne (pa_cons (pe_fld (pv 0) rfl) pa_nil)) (blkOk_by (own := [("place", 5), ("label", 6)]) (N := ["self", "ties", "guests", "rows", "row", "place", "label"]) (sc := defScope s_Company_init) (by decide +kernel)) (fun _ _ _ _ _ => pg_tup (by rfl) (pgs_cons (pg_name (i := 5) sc_Company_init.nd rfl (Or.inl rfl)) (pgs_cons (pg_name (i := 6) sc_Company_init.nd rfl (Or.inl rfl)) pgs_nil))) (fun _ _ _ _ _ => pts_nil) (fun _ _ _ _ _ => pv 6) (fun _ _ _ _ _ => pv 5)) rfl))))))), ?_⟩
        exact ⟨_, rfl, _, rfl, _, rfl, t, ns, _, _, .lst gs, .dk, ss, rfl, hT, hg, kg, hrr, hs, lg, k1, fun hd => nomatch (goodC_of hd).sq⟩
      | lst rs =>
        obtain ⟨pg, rfl, hp⟩ := hg
        obtain ⟨pr, rfl, hq⟩ := hrr
        refine ⟨_, (pss_cons 
    (ps_expr (pcal GK hr (passes_call (takes_of rfl rfl rfl rfl) (fun _ _ _ _ h => h)) (pa_cons (pv 1) (pa_cons (pv 2) (pa_cons (pv 3) pa_nil))))) (pss_cons 
    (ps_fld (pv 0) (pv 1) rfl) (pss_cons 
    (ps_fld (pv 0) (pe_callTy (T := "tuple") (r := rTup K) call_tuple_of (by rfl) nt (by decide +kernel) (pa_cons (pv 2) pa_nil)) rfl) (pss_cons 
    (ps_fld (pv 0) (pe_callTy (T := "tuple") (r := rTup K) call_tuple_of (by rfl) nt (by decide +kernel) (pa_cons (pe_lc (own := [("row", 4)]) (g := gName 4) (by rfl) sc_Company_init.nd (pi_list (pv 3)) (blkOk_by (own := [("row", 4)]) (N := ["self", "ties", "guests", "rows", "row", "place", "label"]) (sc := defScope s_Company_init) (by decide +kernel)) (fun _ _ _ _ _ => pg_name (i := 4) sc_Company_init.nd rfl (Or.inl rfl)) (fun _ _ _ _ _ => pts_nil) (fun _ _ _ _ _ => (pe_callTy (T := "tuple") (r := rTup K) call_tuple_of (by rfl) nt (by decide +kernel) (pa_cons (pv 4) pa_nil)))) pa_nil)) rfl) (pss_cons 
    (ps_fld (pv 0) (pcal GT hr pass0 (pa_cons (pv 1) (pa_cons (pe_fld (pv 0) rfl) pa_nil))) rfl) (pss_one 
    (ps_fld (pv 0) (pe_dc (own := [("place", 5), ("label", 6)]) (g := gTup K 2 (gCons (gName 5) (gCons (gName 6) gNil))) (by rfl) sc_Company_init.nd (pi_enumT (by rfl) ne (pa_cons (pe_fld (pv 0) rfl) pa_nil)) (blkOk_by (own := [("place", 5), ("label", 6)]) (N := ["self", "ties", "guests", "rows", "row", "place", "label"]) (sc := defScope s_Company_init) (by decide +kernel)) (fun _ _ _ _ _ => pg_tup (by rfl) (pgs_cons (pg_name (i := 5) sc_Company_init.nd rfl (Or.inl rfl)) (pgs_cons (pg_name (i := 6) sc_Company_init.nd rfl (Or.inl rfl)) pgs_nil))) (fun _ _ _ _ _ => pts_nil) (fun _ _ _ _ _ => pv 6) (fun _ _ _ _ _ => pv 5)) rfl))))))), ?_⟩
        refine ⟨_, rfl, _, rfl, _, rfl, t, ns, _, _, Sh.lst gs, Sh.lst rs, ss, rfl, hT, ⟨pg, rfl, hp⟩, kg, ⟨pr, rfl, hq⟩, hs, lg, k1, fun hd H1 S1 => ?_⟩
        have G := goodC_of hd
        have hx1 := S1 _ _ hx
        have hp1 := S1 _ _ hp
        have hq1 := S1 _ _ hq
        have hT1 := hT.keep S1
        obtain ⟨is, kin⟩ := G.ints
        have asc := G.asc kin
        have labs := G.labels kin
        have kin' : gs = is.map V.int := kin
        have gful : gs.length ≤ ss.length := G.full
        obtain ⟨tss, tlen, htss⟩ : ∃ tss : List (List Int), tss.length = ss.length ∧ ∀ (j : Nat) (s : Sh) (ts : List Int), ss[j]? = some s → tss[j]? = some ts → items s = ts.map V.int ∧ ts.length = j ∧ ∀ t ∈ ts, 0 ≤ t ∧ t < (ns.length : Nat) := G.tss (by show ss.length ≤ gs.length; have := hs.len; have := G.ln; have : rs.length ≤ gs.length := G.ln; have : rs.length = ss.length := hs.len; omega)
        have gle : gs.length ≤ 60 := G.le
        have rle : rs.length ≤ gs.length := G.ln
        have npg : pg ≠ x := ne_of hp hx (by intro z; cases z)
        have sl : rs.length = ss.length := hs.len
        -- self.ties
        refine ⟨_, rfl, _, rfl, x, CC, dx, [], rfl, hx1, c.cl, c.nT, (by decide), ?_⟩
        have hx2 : (upd H1 x (.ins CC dx (putF "ties" (.ref t) []))) x = some (.ins CC dx (f1 t)) := upd_same
        have B2 : ∀ b o, b ≠ x → H b = some o → (upd H1 x (.ins CC dx (putF "ties" (.ref t) []))) b = some o := fun b o nb eb => by rw [upd_ne nb]; exact S1 _ _ eb
        have hp2 := B2 _ _ npg hp
        -- self.guests
        refine ⟨_, rfl, pg, gs, rfl, .inl ⟨SqL.of hp2, fun ga hga => ?_⟩⟩
        have nga : ga ≠ x := (ne_of_none hx2 hga).symm
        refine ⟨_, rfl, x, CC, dx, _, rfl, (by rw [upd_ne nga.symm]; exact hx2), c.cl, c.nG, cl1 t, ?_⟩
        have hx3 : (upd (upd (upd H1 x (.ins CC dx (putF "ties" (.ref t) []))) ga (.tup gs)) x (.ins CC dx (putF "guests" (.ref ga) (f1 t)))) x = some (.ins CC dx (f2 t ga)) := upd_same
        have hg3 : (upd (upd (upd H1 x (.ins CC dx (putF "ties" (.ref t) []))) ga (.tup gs)) x (.ins CC dx (putF "guests" (.ref ga) (f1 t)))) ga = some (.tup gs) := by rw [upd_ne nga, upd_same]
        have B3 : ∀ b o, b ≠ x → H b = some o → (upd (upd (upd H1 x (.ins CC dx (putF "ties" (.ref t) []))) ga (.tup gs)) x (.ins CC dx (putF "guests" (.ref ga) (f1 t)))) b = some o := fun b o nb eb => by
          have e := B2 b o nb eb
          rw [upd_ne nb, upd_ne (ne_of_none e hga)]
          exact e
        generalize upd (upd (upd H1 x (.ins CC dx (putF "ties" (.ref t) []))) ga (.tup gs)) x (.ins CC dx (putF "guests" (.ref ga) (f1 t))) = H3 at hx3 hg3 B3
        -- self.rows
        have hq3 := B3 _ _ (ne_of hq hx (by intro z; cases z)) hq
        refine ⟨_, rfl, pr, rfl, ⟨_, SqL.of hq3⟩, fun D hD => ?_⟩
        refine lc_list (K := K) (a := pr) (xs := rs) (fun i H4 => Same H3 H4 ∧ H3 D = none ∧ ∃ ps : List Addr, ps.length = i ∧ H4 D = some (.lst (ps.map V.ref)) ∧ ∀ (j : Nat) (a : Addr) (s : Sh), ps[j]? = some a → ss[j]? = some s → H4 a = some (.tup (items s)))
          ⟨new_same hD, hD, [], rfl, upd_same, fun j a s e => nomatch e⟩ (fun i H4 _ ⟨S4, _⟩ => SqL.of (S4 _ _ hq3)) ?_ ?_
        · rintro i y H4 hy ⟨S4, D0, ps, pl, eD, hps⟩
          have hi : i < rs.length := (List.getElem?_eq_some_iff.mp hy).1
          obtain ⟨s, es, isy, _⟩ := hs.at_ hy
          obtain ⟨s', es', ew⟩ := G.row (j := i) (by show i < gs.length; omega)
          obtain rfl : s = s' := by rw [es] at es'; exact Option.some.inj es'
          obtain ⟨sq, _⟩ := rowW_good ew
          refine ⟨rfl, yesT ?_⟩
          have put : ∀ (H5 : Hp) (z : Addr), Same H4 H5 → H5 z = some (.tup (items s)) → ∃ acc : List V, H5 D = some (.lst acc) ∧ acc.length < sizeLine ∧ Same H3 (upd H5 D (.lst (acc ++ [.ref z]))) ∧ H3 D = none ∧ ∃ ps : List Addr, ps.length = i + 1 ∧ (upd H5 D (.lst (acc ++ [.ref z]))) D = some (.lst (ps.map V.ref)) ∧ ∀ (j : Nat) (a : Addr) (s : Sh), ps[j]? = some a → ss[j]? = some s → (upd H5 D (.lst (acc ++ [.ref z]))) a = some (.tup (items s)) := fun H5 z S5 ez => by
            refine ⟨_, S5 _ _ eD, by rw [List.length_map, pl]; show i < 16777216; omega, fun b o eb => ?_, D0, ps ++ [z], by rw [List.length_append, pl]; rfl, by rw [upd_same, List.map_append]; rfl, fun j a s2 ea e2 => ?_⟩
            · rw [upd_ne (ne_of_none eb D0)]
              exact S5 _ _ (S4 _ _ eb)
            · rcases Nat.lt_or_ge j ps.length with hj | hj
              · rw [List.getElem?_append_left hj] at ea
                have q := S5 _ _ (hps j a s2 ea e2)
                rw [upd_ne (ne_of q (S5 _ _ eD) (by intro z; cases z))]
                exact q
              · have hj2 : j = i := by
                  have := (List.getElem?_eq_some_iff.mp ea).1
                  rw [List.length_append] at this
                  have l : [z].length = 1 := rfl
                  omega
                subst hj2
                rw [← pl, List.getElem?_append_right (Nat.le_refl _), Nat.sub_self] at ea
                obtain rfl : z = a := Option.some.inj ea
                obtain rfl : s = s2 := by rw [es] at e2; exact Option.some.inj e2
                rw [upd_ne (ne_of ez (S5 _ _ eD) (by intro z; cases z))]
                exact ez
          cases s with
          | sc u => cases sq
          | dk => cases sq
          | lst ys =>
            obtain ⟨a, rfl, ea⟩ := isy
            refine ⟨_, rfl, a, ys, rfl, .inl ⟨SqL.of (S4 _ _ (B3 _ _ (ne_of ea hx (by intro z; cases z)) ea)), fun z hz => ?_⟩⟩
            exact put _ z (new_same hz) upd_same
          | tup ys =>
            obtain ⟨a, rfl, ea⟩ := isy
            have ea4 := S4 _ _ (B3 _ _ (ne_of ea hx (by intro z; cases z)) ea)
            exact ⟨_, rfl, a, ys, rfl, .inr ⟨SqT.of ea4, put _ a (Same.refl _) ea4⟩⟩
        · rintro H4 ⟨S4, D0, ps, pl, eD, hps⟩
          refine ⟨D, _, rfl, .inl ⟨SqL.of eD, fun ra hra => ?_⟩⟩
          have hx4 := S4 _ _ hx3
          have nra : ra ≠ x := (ne_of_none hx4 hra).symm
          refine ⟨_, rfl, x, CC, dx, _, rfl, (by rw [upd_ne nra.symm]; exact hx4), c.cl, c.nR, cl2 t ga, ?_⟩
          have hx5 : (upd (upd H4 ra (.tup (ps.map V.ref))) x (.ins CC dx (putF "rows" (.ref ra) (f2 t ga)))) x = some (.ins CC dx (f3 t ga ra)) := upd_same
          have hr5 : (upd (upd H4 ra (.tup (ps.map V.ref))) x (.ins CC dx (putF "rows" (.ref ra) (f2 t ga)))) ra = some (.tup (ps.map V.ref)) := by rw [upd_ne nra, upd_same]
          have C5 : ∀ b o, b ≠ x → H4 b = some o → (upd (upd H4 ra (.tup (ps.map V.ref))) x (.ins CC dx (putF "rows" (.ref ra) (f2 t ga)))) b = some o := fun b o nb eb => by
            rw [upd_ne nb, upd_ne (ne_of_none eb hra)]
            exact eb
          generalize upd (upd H4 ra (.tup (ps.map V.ref))) x (.ins CC dx (putF "rows" (.ref ra) (f2 t ga))) = H5 at hx5 hr5 C5
          have B5 : ∀ b o, b ≠ x → H b = some o → H5 b = some o := fun b o nb eb => C5 b o nb (S4 _ _ (B3 b o nb eb))
          have hg5 := C5 _ _ (ne_of hg3 hx3 (by intro z; cases z)) (S4 _ _ hg3)
          have rows5 : ∀ (j : Nat) (a : Addr) (s : Sh), ps[j]? = some a → ss[j]? = some s → H5 a = some (.tup (items s)) := fun j a s ea e2 => by
            have q := hps j a s ea e2
            exact C5 _ _ (ne_of q hx4 (by intro z; cases z)) q
          have hT5 := hT.but0 hx B5
          have R5 : RowsAt H5 ra ns.length ps tss := ⟨hr5, by omega, fun j a ts ea ets => by
            have hj : j < ps.length := (List.getElem?_eq_some_iff.mp ea).1
            have es := List.getElem?_eq_getElem (l := ss) (i := j) (by omega)
            obtain ⟨e1, e2, e3⟩ := htss j _ ts es ets
            exact ⟨by rw [← e1]; exact rows5 j a _ ea es, e2, e3⟩⟩
          -- self.table
          refine ⟨_, rfl, _, rfl, x, CC, dx, _, _, rfl, hx5, c.cl, c.nR, f3_rows t ga ra, t, ra, ns, ps, tss, rfl, hT5, R5, by omega, fun H6 z S6 _ e6 => ?_⟩
          have hx6 := S6 _ _ hx5
          refine ⟨_, rfl, x, CC, dx, _, rfl, hx6, c.cl, c.nB, cl3 t ga ra, ?_⟩
          have hx7 : (upd H6 x (.ins CC dx (putF "table" (.ref z) (f3 t ga ra)))) x = some (.ins CC dx (f4 t ga ra z)) := upd_same
          have C67 : ∀ b o, b ≠ x → H6 b = some o → (upd H6 x (.ins CC dx (putF "table" (.ref z) (f3 t ga ra)))) b = some o := fun b o nb eb => by
            rw [upd_ne nb]
            exact eb
          have C7 : ∀ b o, b ≠ x → H5 b = some o → (upd H6 x (.ins CC dx (putF "table" (.ref z) (f3 t ga ra)))) b = some o := fun b o nb eb => by
            rw [upd_ne nb]
            exact S6 _ _ eb
          generalize upd H6 x (.ins CC dx (putF "table" (.ref z) (f3 t ga ra))) = H7 at hx7 C7 C67
          have hg7 := C7 _ _ (ne_of hg5 hx5 (by intro z; cases z)) hg5
          have hr7 := C7 _ _ (ne_of hr5 hx5 (by intro z; cases z)) hr5
          -- self._places
          refine ⟨_, rfl, x, CC, dx, _, _, rfl, hx7, c.cl, c.nG, f4_guests t ga ra z, ga, gs, rfl, SqT.of hg7, fun D2 hD2 => ?_⟩
          refine dc_enumT (K := K) (a := ga) (xs := gs) (fun i H8 => Same H7 H8 ∧ H7 D2 = none ∧ ∃ kvs : List (Key × V), kvs.length ≤ i ∧ H8 D2 = some (.dK kvs) ∧ ∀ k, valV kvs k = place (is.take i) k) ⟨new_same hD2, hD2, [], Nat.le_refl _, upd_same, fun k => by cases k <;> rfl⟩ (fun i H8 _ ⟨S8, _⟩ => SqT.of (S8 _ _ hg7)) ?_ ?_
          · rintro i y H8 T hy ⟨S8, D0', kvs, kl, eK, vK⟩ hT8
            have hi : i < gs.length := (List.getElem?_eq_some_iff.mp hy).1
            obtain ⟨n, hn, rfl⟩ : ∃ n, is[i]? = some n ∧ y = V.int n := by
              rw [kin', List.getElem?_map] at hy
              cases e : is[i]? with
              | none => rw [e] at hy; cases hy
              | some n => rw [e] at hy; exact ⟨n, rfl, (Option.some.inj hy).symm⟩
            refine ⟨T, _, rfl, SqT.of upd_same, rfl, _, _, rfl, _, _, rfl, rfl, rfl, yesT ?_⟩
            refine ⟨_, rfl, _, rfl, kvs, .inl n, rfl, by rw [upd_ne (ne_of_none eK hT8)]; exact eK, by show kvs.length < 16777216; omega, fun b o eb => ?_, D0', _, Nat.le_trans (length_putK _ _ _) (by omega), upd_same, fun k => ?_⟩
            · rw [upd_ne (ne_of_none eb D0'), upd_ne (ne_of_none (S8 _ _ eb) hT8)]
              exact S8 _ _ eb
            · rw [valV_put, place_next hn asc, vK]
          · rintro H8 ⟨S8, D0', kvs, kl, eK, vK⟩
            have hx8 := S8 _ _ hx7
            have ln : is.length = gs.length := by rw [kin', List.length_map]
            rw [show is.take gs.length = is from by rw [← ln, List.take_length]] at vK
            refine ⟨_, rfl, x, CC, dx, _, rfl, hx8, c.cl, c.nP, cl4 t ga ra z, ?_⟩
            have C9 : ∀ b o, b ≠ x → H5 b = some o → (upd H8 x (.ins CC dx (putF "_places" (.ref D2) (f4 t ga ra z)))) b = some o := fun b o nb eb => by
              rw [upd_ne nb]
              exact S8 _ _ (C7 b o nb eb)
            have B9 : ∀ b o, b ≠ x → H b = some o → (upd H8 x (.ins CC dx (putF "_places" (.ref D2) (f4 t ga ra z)))) b = some o := fun b o nb eb => C9 b o nb (B5 b o nb eb)
            have D9 : ∀ b o, b ≠ x → H6 b = some o → (upd H8 x (.ins CC dx (putF "_places" (.ref D2) (f4 t ga ra z)))) b = some o := fun b o nb eb => by
              rw [upd_ne nb]
              exact S8 _ _ (C67 b o nb eb)
            refine k2 hd _ is tss B9 kin asc (by rw [tlen]; omega) (fun j s ts e1 e2 => (htss j s ts e1 e2).1) ⟨dx, t, ga, ra, z, D2, ps, kvs, upd_same, hT.but0 hx B9, (by rw [← show gs = is.map V.int from kin]; exact C9 _ _ (ne_of hg5 hx5 (by intro z; cases z)) hg5), ⟨C9 _ _ (ne_of hr5 hx5 (by intro z; cases z)) hr5, R5.2.1, fun j a ts ea ets => ?_⟩, ?_, (by rw [upd_ne (ne_of eK hx8 (by intro z; cases z))]; exact eK), vK, asc, by rw [tlen]; omega, by omega, labs⟩
            · obtain ⟨q1, q2⟩ := R5.2.2 j a ts ea ets
              exact ⟨C9 _ _ (ne_of q1 hx5 (by intro z; cases z)) q1, q2⟩
            · obtain ⟨us, u1, u2, u3⟩ := e6
              refine ⟨us, D9 _ _ (ne_of u1 hx6 (by intro z; cases z)) u1, u2, fun a u e => ?_⟩
              obtain ⟨xs, w1, w2⟩ := u3 a u e
              exact ⟨xs, D9 _ _ (ne_of w1 hx6 (by intro z; cases z)) w1, w2⟩
      | tup rs =>
        obtain ⟨pg, rfl, hp⟩ := hg
        obtain ⟨pr, rfl, hq⟩ := hrr
        refine ⟨_, (pss_cons 
    (ps_expr (pcal GK hr (passes_call (takes_of rfl rfl rfl rfl) (fun _ _ _ _ h => h)) (pa_cons (pv 1) (pa_cons (pv 2) (pa_cons (pv 3) pa_nil))))) (pss_cons 
    (ps_fld (pv 0) (pv 1) rfl) (pss_cons 
    (ps_fld (pv 0) (pe_callTy (T := "tuple") (r := rTup K) call_tuple_of (by rfl) nt (by decide +kernel) (pa_cons (pv 2) pa_nil)) rfl) (pss_cons 
    (ps_fld (pv 0) (pe_callTy (T := "tuple") (r := rTup K) call_tuple_of (by rfl) nt (by decide +kernel) (pa_cons (pe_lc (own := [("row", 4)]) (g := gName 4) (by rfl) sc_Company_init.nd (pi_tup (pv 3)) (blkOk_by (own := [("row", 4)]) (N := ["self", "ties", "guests", "rows", "row", "place", "label"]) (sc := defScope s_Company_init) (by decide +kernel)) (fun _ _ _ _ _ => pg_name (i := 4) sc_Company_init.nd rfl (Or.inl rfl)) (fun _ _ _ _ _ => pts_nil) (fun _ _ _ _ _ => (pe_callTy (T := "tuple") (r := rTup K) call_tuple_of (by rfl) nt (by decide +kernel) (pa_cons (pv 4) pa_nil)))) pa_nil)) rfl) (pss_cons 
    (ps_fld (pv 0) (pcal GT hr pass0 (pa_cons (pv 1) (pa_cons (pe_fld (pv 0) rfl) pa_nil))) rfl) (pss_one 
    (ps_fld (pv 0) (pe_dc (own := [("place", 5), ("label", 6)]) (g := gTup K 2 (gCons (gName 5) (gCons (gName 6) gNil))) (by rfl) sc_Company_init.nd (pi_enumT (by rfl) ne (pa_cons (pe_fld (pv 0) rfl) pa_nil)) (blkOk_by (own := [("place", 5), ("label", 6)]) (N := ["self", "ties", "guests", "rows", "row", "place", "label"]) (sc := defScope s_Company_init) (by decide +kernel)) (fun _ _ _ _ _ => pg_tup (by rfl) (pgs_cons (pg_name (i := 5) sc_Company_init.nd rfl (Or.inl rfl)) (pgs_cons (pg_name (i := 6) sc_Company_init.nd rfl (Or.inl rfl)) pgs_nil))) (fun _ _ _ _ _ => pts_nil) (fun _ _ _ _ _ => pv 6) (fun _ _ _ _ _ => pv 5)) rfl))))))), ?_⟩
        refine ⟨_, rfl, _, rfl, _, rfl, t, ns, _, _, Sh.lst gs, Sh.tup rs, ss, rfl, hT, ⟨pg, rfl, hp⟩, kg, ⟨pr, rfl, hq⟩, hs, lg, k1, fun hd H1 S1 => ?_⟩
        have G := goodC_of hd
        have hx1 := S1 _ _ hx
        have hp1 := S1 _ _ hp
        have hq1 := S1 _ _ hq
        have hT1 := hT.keep S1
        obtain ⟨is, kin⟩ := G.ints
        have asc := G.asc kin
        have labs := G.labels kin
        have kin' : gs = is.map V.int := kin
        have gful : gs.length ≤ ss.length := G.full
        obtain ⟨tss, tlen, htss⟩ : ∃ tss : List (List Int), tss.length = ss.length ∧ ∀ (j : Nat) (s : Sh) (ts : List Int), ss[j]? = some s → tss[j]? = some ts → items s = ts.map V.int ∧ ts.length = j ∧ ∀ t ∈ ts, 0 ≤ t ∧ t < (ns.length : Nat) := G.tss (by show ss.length ≤ gs.length; have := hs.len; have := G.ln; have : rs.length ≤ gs.length := G.ln; have : rs.length = ss.length := hs.len; omega)
        have gle : gs.length ≤ 60 := G.le
        have rle : rs.length ≤ gs.length := G.ln
        have npg : pg ≠ x := ne_of hp hx (by intro z; cases z)
        have sl : rs.length = ss.length := hs.len
        -- self.ties
        refine ⟨_, rfl, _, rfl, x, CC, dx, [], rfl, hx1, c.cl, c.nT, (by decide), ?_⟩
        have hx2 : (upd H1 x (.ins CC dx (putF "ties" (.ref t) []))) x = some (.ins CC dx (f1 t)) := upd_same
        have B2 : ∀ b o, b ≠ x → H b = some o → (upd H1 x (.ins CC dx (putF "ties" (.ref t) []))) b = some o := fun b o nb eb => by rw [upd_ne nb]; exact S1 _ _ eb
        have hp2 := B2 _ _ npg hp
        -- self.guests
        refine ⟨_, rfl, pg, gs, rfl, .inl ⟨SqL.of hp2, fun ga hga => ?_⟩⟩
        have nga : ga ≠ x := (ne_of_none hx2 hga).symm
        refine ⟨_, rfl, x, CC, dx, _, rfl, (by rw [upd_ne nga.symm]; exact hx2), c.cl, c.nG, cl1 t, ?_⟩
        have hx3 : (upd (upd (upd H1 x (.ins CC dx (putF "ties" (.ref t) []))) ga (.tup gs)) x (.ins CC dx (putF "guests" (.ref ga) (f1 t)))) x = some (.ins CC dx (f2 t ga)) := upd_same
        have hg3 : (upd (upd (upd H1 x (.ins CC dx (putF "ties" (.ref t) []))) ga (.tup gs)) x (.ins CC dx (putF "guests" (.ref ga) (f1 t)))) ga = some (.tup gs) := by rw [upd_ne nga, upd_same]
        have B3 : ∀ b o, b ≠ x → H b = some o → (upd (upd (upd H1 x (.ins CC dx (putF "ties" (.ref t) []))) ga (.tup gs)) x (.ins CC dx (putF "guests" (.ref ga) (f1 t)))) b = some o := fun b o nb eb => by
          have e := B2 b o nb eb
          rw [upd_ne nb, upd_ne (ne_of_none e hga)]
          exact e
        generalize upd (upd (upd H1 x (.ins CC dx (putF "ties" (.ref t) []))) ga (.tup gs)) x (.ins CC dx (putF "guests" (.ref ga) (f1 t))) = H3 at hx3 hg3 B3
        -- self.rows
        have hq3 := B3 _ _ (ne_of hq hx (by intro z; cases z)) hq
        refine ⟨_, rfl, pr, rfl, ⟨_, SqT.of hq3⟩, fun D hD => ?_⟩
        refine lc_tup (K := K) (a := pr) (xs := rs) (fun i H4 => Same H3 H4 ∧ H3 D = none ∧ ∃ ps : List Addr, ps.length = i ∧ H4 D = some (.lst (ps.map V.ref)) ∧ ∀ (j : Nat) (a : Addr) (s : Sh), ps[j]? = some a → ss[j]? = some s → H4 a = some (.tup (items s)))
          ⟨new_same hD, hD, [], rfl, upd_same, fun j a s e => nomatch e⟩ (fun i H4 _ ⟨S4, _⟩ => SqT.of (S4 _ _ hq3)) ?_ ?_
        · rintro i y H4 hy ⟨S4, D0, ps, pl, eD, hps⟩
          have hi : i < rs.length := (List.getElem?_eq_some_iff.mp hy).1
          obtain ⟨s, es, isy, _⟩ := hs.at_ hy
          obtain ⟨s', es', ew⟩ := G.row (j := i) (by show i < gs.length; omega)
          obtain rfl : s = s' := by rw [es] at es'; exact Option.some.inj es'
          obtain ⟨sq, _⟩ := rowW_good ew
          refine ⟨rfl, yesT ?_⟩
          have put : ∀ (H5 : Hp) (z : Addr), Same H4 H5 → H5 z = some (.tup (items s)) → ∃ acc : List V, H5 D = some (.lst acc) ∧ acc.length < sizeLine ∧ Same H3 (upd H5 D (.lst (acc ++ [.ref z]))) ∧ H3 D = none ∧ ∃ ps : List Addr, ps.length = i + 1 ∧ (upd H5 D (.lst (acc ++ [.ref z]))) D = some (.lst (ps.map V.ref)) ∧ ∀ (j : Nat) (a : Addr) (s : Sh), ps[j]? = some a → ss[j]? = some s → (upd H5 D (.lst (acc ++ [.ref z]))) a = some (.tup (items s)) := fun H5 z S5 ez => by
            refine ⟨_, S5 _ _ eD, by rw [List.length_map, pl]; show i < 16777216; omega, fun b o eb => ?_, D0, ps ++ [z], by rw [List.length_append, pl]; rfl, by rw [upd_same, List.map_append]; rfl, fun j a s2 ea e2 => ?_⟩
            · rw [upd_ne (ne_of_none eb D0)]
              exact S5 _ _ (S4 _ _ eb)
            · rcases Nat.lt_or_ge j ps.length with hj | hj
              · rw [List.getElem?_append_left hj] at ea
                have q := S5 _ _ (hps j a s2 ea e2)
                rw [upd_ne (ne_of q (S5 _ _ eD) (by intro z; cases z))]
                exact q
              · have hj2 : j = i := by
                  have := (List.getElem?_eq_some_iff.mp ea).1
                  rw [List.length_append] at this
                  have l : [z].length = 1 := rfl
                  omega
                subst hj2
                rw [← pl, List.getElem?_append_right (Nat.le_refl _), Nat.sub_self] at ea
                obtain rfl : z = a := Option.some.inj ea
                obtain rfl : s = s2 := by rw [es] at e2; exact Option.some.inj e2
                rw [upd_ne (ne_of ez (S5 _ _ eD) (by intro z; cases z))]
                exact ez
          cases s with
          | sc u => cases sq
          | dk => cases sq
          | lst ys =>
            obtain ⟨a, rfl, ea⟩ := isy
            refine ⟨_, rfl, a, ys, rfl, .inl ⟨SqL.of (S4 _ _ (B3 _ _ (ne_of ea hx (by intro z; cases z)) ea)), fun z hz => ?_⟩⟩
            exact put _ z (new_same hz) upd_same
          | tup ys =>
            obtain ⟨a, rfl, ea⟩ := isy
            have ea4 := S4 _ _ (B3 _ _ (ne_of ea hx (by intro z; cases z)) ea)
            exact ⟨_, rfl, a, ys, rfl, .inr ⟨SqT.of ea4, put _ a (Same.refl _) ea4⟩⟩
        · rintro H4 ⟨S4, D0, ps, pl, eD, hps⟩
          refine ⟨D, _, rfl, .inl ⟨SqL.of eD, fun ra hra => ?_⟩⟩
          have hx4 := S4 _ _ hx3
          have nra : ra ≠ x := (ne_of_none hx4 hra).symm
          refine ⟨_, rfl, x, CC, dx, _, rfl, (by rw [upd_ne nra.symm]; exact hx4), c.cl, c.nR, cl2 t ga, ?_⟩
          have hx5 : (upd (upd H4 ra (.tup (ps.map V.ref))) x (.ins CC dx (putF "rows" (.ref ra) (f2 t ga)))) x = some (.ins CC dx (f3 t ga ra)) := upd_same
          have hr5 : (upd (upd H4 ra (.tup (ps.map V.ref))) x (.ins CC dx (putF "rows" (.ref ra) (f2 t ga)))) ra = some (.tup (ps.map V.ref)) := by rw [upd_ne nra, upd_same]
          have C5 : ∀ b o, b ≠ x → H4 b = some o → (upd (upd H4 ra (.tup (ps.map V.ref))) x (.ins CC dx (putF "rows" (.ref ra) (f2 t ga)))) b = some o := fun b o nb eb => by
            rw [upd_ne nb, upd_ne (ne_of_none eb hra)]
            exact eb
          generalize upd (upd H4 ra (.tup (ps.map V.ref))) x (.ins CC dx (putF "rows" (.ref ra) (f2 t ga))) = H5 at hx5 hr5 C5
          have B5 : ∀ b o, b ≠ x → H b = some o → H5 b = some o := fun b o nb eb => C5 b o nb (S4 _ _ (B3 b o nb eb))
          have hg5 := C5 _ _ (ne_of hg3 hx3 (by intro z; cases z)) (S4 _ _ hg3)
          have rows5 : ∀ (j : Nat) (a : Addr) (s : Sh), ps[j]? = some a → ss[j]? = some s → H5 a = some (.tup (items s)) := fun j a s ea e2 => by
            have q := hps j a s ea e2
            exact C5 _ _ (ne_of q hx4 (by intro z; cases z)) q
          have hT5 := hT.but0 hx B5
          have R5 : RowsAt H5 ra ns.length ps tss := ⟨hr5, by omega, fun j a ts ea ets => by
            have hj : j < ps.length := (List.getElem?_eq_some_iff.mp ea).1
            have es := List.getElem?_eq_getElem (l := ss) (i := j) (by omega)
            obtain ⟨e1, e2, e3⟩ := htss j _ ts es ets
            exact ⟨by rw [← e1]; exact rows5 j a _ ea es, e2, e3⟩⟩
          -- self.table
          refine ⟨_, rfl, _, rfl, x, CC, dx, _, _, rfl, hx5, c.cl, c.nR, f3_rows t ga ra, t, ra, ns, ps, tss, rfl, hT5, R5, by omega, fun H6 z S6 _ e6 => ?_⟩
          have hx6 := S6 _ _ hx5
          refine ⟨_, rfl, x, CC, dx, _, rfl, hx6, c.cl, c.nB, cl3 t ga ra, ?_⟩
          have hx7 : (upd H6 x (.ins CC dx (putF "table" (.ref z) (f3 t ga ra)))) x = some (.ins CC dx (f4 t ga ra z)) := upd_same
          have C67 : ∀ b o, b ≠ x → H6 b = some o → (upd H6 x (.ins CC dx (putF "table" (.ref z) (f3 t ga ra)))) b = some o := fun b o nb eb => by
            rw [upd_ne nb]
            exact eb
          have C7 : ∀ b o, b ≠ x → H5 b = some o → (upd H6 x (.ins CC dx (putF "table" (.ref z) (f3 t ga ra)))) b = some o := fun b o nb eb => by
            rw [upd_ne nb]
            exact S6 _ _ eb
          generalize upd H6 x (.ins CC dx (putF "table" (.ref z) (f3 t ga ra))) = H7 at hx7 C7 C67
          have hg7 := C7 _ _ (ne_of hg5 hx5 (by intro z; cases z)) hg5
          have hr7 := C7 _ _ (ne_of hr5 hx5 (by intro z; cases z)) hr5
          -- self._places
          refine ⟨_, rfl, x, CC, dx, _, _, rfl, hx7, c.cl, c.nG, f4_guests t ga ra z, ga, gs, rfl, SqT.of hg7, fun D2 hD2 => ?_⟩
          refine dc_enumT (K := K) (a := ga) (xs := gs) (fun i H8 => Same H7 H8 ∧ H7 D2 = none ∧ ∃ kvs : List (Key × V), kvs.length ≤ i ∧ H8 D2 = some (.dK kvs) ∧ ∀ k, valV kvs k = place (is.take i) k) ⟨new_same hD2, hD2, [], Nat.le_refl _, upd_same, fun k => by cases k <;> rfl⟩ (fun i H8 _ ⟨S8, _⟩ => SqT.of (S8 _ _ hg7)) ?_ ?_
          · rintro i y H8 T hy ⟨S8, D0', kvs, kl, eK, vK⟩ hT8
            have hi : i < gs.length := (List.getElem?_eq_some_iff.mp hy).1
            obtain ⟨n, hn, rfl⟩ : ∃ n, is[i]? = some n ∧ y = V.int n := by
              rw [kin', List.getElem?_map] at hy
              cases e : is[i]? with
              | none => rw [e] at hy; cases hy
              | some n => rw [e] at hy; exact ⟨n, rfl, (Option.some.inj hy).symm⟩
            refine ⟨T, _, rfl, SqT.of upd_same, rfl, _, _, rfl, _, _, rfl, rfl, rfl, yesT ?_⟩
            refine ⟨_, rfl, _, rfl, kvs, .inl n, rfl, by rw [upd_ne (ne_of_none eK hT8)]; exact eK, by show kvs.length < 16777216; omega, fun b o eb => ?_, D0', _, Nat.le_trans (length_putK _ _ _) (by omega), upd_same, fun k => ?_⟩
            · rw [upd_ne (ne_of_none eb D0'), upd_ne (ne_of_none (S8 _ _ eb) hT8)]
              exact S8 _ _ eb
            · rw [valV_put, place_next hn asc, vK]
          · rintro H8 ⟨S8, D0', kvs, kl, eK, vK⟩
            have hx8 := S8 _ _ hx7
            have ln : is.length = gs.length := by rw [kin', List.length_map]
            rw [show is.take gs.length = is from by rw [← ln, List.take_length]] at vK
            refine ⟨_, rfl, x, CC, dx, _, rfl, hx8, c.cl, c.nP, cl4 t ga ra z, ?_⟩
            have C9 : ∀ b o, b ≠ x → H5 b = some o → (upd H8 x (.ins CC dx (putF "_places" (.ref D2) (f4 t ga ra z)))) b = some o := fun b o nb eb => by
              rw [upd_ne nb]
              exact S8 _ _ (C7 b o nb eb)
            have B9 : ∀ b o, b ≠ x → H b = some o → (upd H8 x (.ins CC dx (putF "_places" (.ref D2) (f4 t ga ra z)))) b = some o := fun b o nb eb => C9 b o nb (B5 b o nb eb)
            have D9 : ∀ b o, b ≠ x → H6 b = some o → (upd H8 x (.ins CC dx (putF "_places" (.ref D2) (f4 t ga ra z)))) b = some o := fun b o nb eb => by
              rw [upd_ne nb]
              exact S8 _ _ (C67 b o nb eb)
            refine k2 hd _ is tss B9 kin asc (by rw [tlen]; omega) (fun j s ts e1 e2 => (htss j s ts e1 e2).1) ⟨dx, t, ga, ra, z, D2, ps, kvs, upd_same, hT.but0 hx B9, (by rw [← show gs = is.map V.int from kin]; exact C9 _ _ (ne_of hg5 hx5 (by intro z; cases z)) hg5), ⟨C9 _ _ (ne_of hr5 hx5 (by intro z; cases z)) hr5, R5.2.1, fun j a ts ea ets => ?_⟩, ?_, (by rw [upd_ne (ne_of eK hx8 (by intro z; cases z))]; exact eK), vK, asc, by rw [tlen]; omega, by omega, labs⟩
            · obtain ⟨q1, q2⟩ := R5.2.2 j a ts ea ets
              exact ⟨C9 _ _ (ne_of q1 hx5 (by intro z; cases z)) q1, q2⟩
            · obtain ⟨us, u1, u2, u3⟩ := e6
              refine ⟨us, D9 _ _ (ne_of u1 hx6 (by intro z; cases z)) u1, u2, fun a u e => ?_⟩
              obtain ⟨xs, w1, w2⟩ := u3 a u e
              exact ⟨xs, D9 _ _ (ne_of w1 hx6 (by intro z; cases z)) w1, w2⟩
    | tup gs =>
      cases sr with
      | sc u =>
        refine ⟨_, (pss_cons 
  (ps_expr (pcal GK hr (passes_call (takes_of rfl rfl rfl rfl) (fun _ _ _ _ h => h)) (pa_cons (pv 1) (pa_cons (pv 2) (pa_cons (pv 3) pa_nil))))) (pss_cons 
  (ps_fld (pv 0) (pv 1) rfl) (pss_cons 
  (ps_fld (pv 0) (pe_callTy (T := "tuple") (r := rTup K) call_tuple_of (by rfl) nt (by decide +kernel) (pa_cons (pv 2) pa_nil)) rfl) (pss_cons 
  (ps_fld (pv 0) (pe_callTy (T := "tuple") (r := rTup K) call_tuple_of (by rfl) nt (by decide +kernel) (pa_cons (pe_lc (own := [("row", 4)]) (g := gName 4) (by rfl) sc_Company_init.nd (pi_list (pv 3)) (blkOk_by (own := [("row", 4)]) (N := ["self", "ties", "guests", "rows", "row", "place", "label"]) (sc := defScope s_Company_init) (by decide +kernel)) (fun _ _ _ _ _ => pg_name (i := 4) sc_Company_init.nd rfl (Or.inl rfl)) (fun _ _ _ _ _ => pts_nil) (fun _ _ _ _ _ => (pe_callTy (T := "tuple") (r := rTup K) call_tuple_of (by rfl) nt (by decide +kernel) (pa_cons (pv 4) pa_nil)))) pa_nil)) rfl) (pss_cons 
  (ps_fld (pv 0) (pcal GT hr pass0 (pa_cons (pv 1) (pa_cons (pe_fld (pv 0) rfl) pa_nil))) rfl) (pss_one 
  (ps_fld (pv 0) (pe_dc (own := [("place", 5), ("label", 6)]) (g := gTup K 2 (gCons (gName 5) (gCons (gName 6) gNil))) (by rfl) sc_Company_init.nd (pi_enumT (by rfl) ne (pa_cons (pe_fld (pv 0) rfl) pa_nil)) (blkOk_by (own := [("place", 5), ("label", 6)]) (N := ["self", "ties", "guests", "rows", "row", "place", "label"]) (sc := defScope s_Company_init) (by decide +kernel)) (fun _ _ _ _ _ => pg_tup (by rfl) (pgs_cons (pg_name (i := 5) sc_Company_init.nd rfl (Or.inl rfl)) (pgs_cons (pg_name (i := 6) sc_Company_init.nd rfl (Or.inl rfl)) pgs_nil))) (fun _ _ _ _ _ => pts_nil) (fun _ _ _ _ _ => pv 6) (fun _ _ _ _ _ => pv 5)) rfl))))))), ?_⟩
        exact ⟨_, rfl, _, rfl, _, rfl, t, ns, _, _, .tup gs, .sc u, ss, rfl, hT, hg, kg, hrr, hs, lg, k1, fun hd => nomatch (goodC_of hd).sq⟩
      | dk =>
        refine ⟨_, (pss_cons 
  (ps_expr (pcal GK hr (passes_call (takes_of rfl rfl rfl rfl) (fun _ _ _ _ h => h)) (pa_cons (pv 1) (pa_cons (pv 2) (pa_cons (pv 3) pa_nil))))) (pss_cons 
  (ps_fld (pv 0) (pv 1) rfl) (pss_cons 
  (ps_fld (pv 0) (pe_callTy (T := "tuple") (r := rTup K) call_tuple_of (by rfl) nt (by decide +kernel) (pa_cons (pv 2) pa_nil)) rfl) (pss_cons 
  (ps_fld (pv 0) (pe_callTy (T := "tuple") (r := rTup K) call_tuple_of (by rfl) nt (by decide +kernel) (pa_cons (pe_lc (own := [("row", 4)]) (g := gName 4) (by rfl) sc_Company_init.nd (pi_list (pv 3)) (blkOk_by (own := [("row", 4)]) (N := ["self", "ties", "guests", "rows", "row", "place", "label"]) (sc := defScope s_Company_init) (by decide +kernel)) (fun _ _ _ _ _ => pg_name (i := 4) sc_Company_init.nd rfl (Or.inl rfl)) (fun _ _ _ _ _ => pts_nil) (fun _ _ _ _ _ => (pe_callTy (T := "tuple") (r := rTup K) call_tuple_of (by rfl) nt (by decide +kernel) (pa_cons (pv 4) pa_nil)))) pa_nil)) rfl) (pss_cons 
  (ps_fld (pv 0) (pcal GT hr pass0 (pa_cons (pv 1) (pa_cons (pe_fld (pv 0) rfl) pa_nil))) rfl) (pss_one 
  (ps_fld (pv 0) (pe_dc (own := [("place", 5), ("label", 6)]) (g := gTup K 2 (gCons (gName 5) (gCons (gName 6) gNil))) (by rfl) sc_Company_init.nd (pi_enumT (by rfl) ne (pa_cons (pe_fld (pv 0) rfl) pa_nil)) (blkOk_by (own := [("place", 5), ("label", 6)]) (N := ["self", "ties", "guests", "rows", "row", "place", "label"]) (sc := defScope s_Company_init) (by decide +kernel)) (fun _ _ _ _ _ => pg_tup (by rfl) (pgs_cons (pg_name (i := 5) sc_Company_init.nd rfl (Or.inl rfl)) (pgs_cons (pg_name (i := 6) sc_Company_init.nd rfl (Or.inl rfl)) pgs_nil))) (fun _ _ _ _ _ => pts_nil) (fun _ _ _ _ _ => pv 6) (fun _ _ _ _ _ => pv 5)) rfl))))))), ?_⟩
        exact ⟨_, rfl, _, rfl, _, rfl, t, ns, _, _, .tup gs, .dk, ss, rfl, hT, hg, kg, hrr, hs, lg, k1, fun hd => nomatch (goodC_of hd).sq⟩
      | lst rs =>
        obtain ⟨pg, rfl, hp⟩ := hg
        obtain ⟨pr, rfl, hq⟩ := hrr
        refine ⟨_, (pss_cons 
    (ps_expr (pcal GK hr (passes_call (takes_of rfl rfl rfl rfl) (fun _ _ _ _ h => h)) (pa_cons (pv 1) (pa_cons (pv 2) (pa_cons (pv 3) pa_nil))))) (pss_cons 
    (ps_fld (pv 0) (pv 1) rfl) (pss_cons 
    (ps_fld (pv 0) (pe_callTy (T := "tuple") (r := rTup K) call_tuple_of (by rfl) nt (by decide +kernel) (pa_cons (pv 2) pa_nil)) rfl) (pss_cons 
    (ps_fld (pv 0) (pe_callTy (T := "tuple") (r := rTup K) call_tuple_of (by rfl) nt (by decide +kernel) (pa_cons (pe_lc (own := [("row", 4)]) (g := gName 4) (by rfl) sc_Company_init.nd (pi_list (pv 3)) (blkOk_by (own := [("row", 4)]) (N := ["self", "ties", "guests", "rows", "row", "place", "label"]) (sc := defScope s_Company_init) (by decide +kernel)) (fun _ _ _ _ _ => pg_name (i := 4) sc_Company_init.nd rfl (Or.inl rfl)) (fun _ _ _ _ _ => pts_nil) (fun _ _ _ _ _ => (pe_callTy (T := "tuple") (r := rTup K) call_tuple_of (by rfl) nt (by decide +kernel) (pa_cons (pv 4) pa_nil)))) pa_nil)) rfl) (pss_cons 
    (ps_fld (pv 0) (pcal GT hr pass0 (pa_cons (pv 1) (pa_cons (pe_fld (pv 0) rfl) pa_nil))) rfl) (pss_one 
    (ps_fld (pv 0) (pe_dc (own := [("place", 5), ("label", 6)]) (g := gTup K 2 (gCons (gName 5) (gCons (gName 6) gNil))) (by rfl) sc_Company_init.nd (pi_enumT (by rfl) ne (pa_cons (pe_fld (pv 0) rfl) pa_nil)) (blkOk_by (own := [("place", 5), ("label", 6)]) (N := ["self", "ties", "guests", "rows", "row", "place", "label"]) (sc := defScope s_Company_init) (by decide +kernel)) (fun _ _ _ _ _ => pg_tup (by rfl) (pgs_cons (pg_name (i := 5) sc_Company_init.nd rfl (Or.inl rfl)) (pgs_cons (pg_name (i := 6) sc_Company_init.nd rfl (Or.inl rfl)) pgs_nil))) (fun _ _ _ _ _ => pts_nil) (fun _ _ _ _ _ => pv 6) (fun _ _ _ _ _ => pv 5)) rfl))))))), ?_⟩
        refine ⟨_, rfl, _, rfl, _, rfl, t, ns, _, _, Sh.tup gs, Sh.lst rs, ss, rfl, hT, ⟨pg, rfl, hp⟩, kg, ⟨pr, rfl, hq⟩, hs, lg, k1, fun hd H1 S1 => ?_⟩
        have G := goodC_of hd
        have hx1 := S1 _ _ hx
        have hp1 := S1 _ _ hp
        have hq1 := S1 _ _ hq
        have hT1 := hT.keep S1
        obtain ⟨is, kin⟩ := G.ints
        have asc := G.asc kin
        have labs := G.labels kin
        have kin' : gs = is.map V.int := kin
        have gful : gs.length ≤ ss.length := G.full
        obtain ⟨tss, tlen, htss⟩ : ∃ tss : List (List Int), tss.length = ss.length ∧ ∀ (j : Nat) (s : Sh) (ts : List Int), ss[j]? = some s → tss[j]? = some ts → items s = ts.map V.int ∧ ts.length = j ∧ ∀ t ∈ ts, 0 ≤ t ∧ t < (ns.length : Nat) := G.tss (by show ss.length ≤ gs.length; have := hs.len; have := G.ln; have : rs.length ≤ gs.length := G.ln; have : rs.length = ss.length := hs.len; omega)
        have gle : gs.length ≤ 60 := G.le
        have rle : rs.length ≤ gs.length := G.ln
        have npg : pg ≠ x := ne_of hp hx (by intro z; cases z)
        have sl : rs.length = ss.length := hs.len
        -- self.ties
        refine ⟨_, rfl, _, rfl, x, CC, dx, [], rfl, hx1, c.cl, c.nT, (by decide), ?_⟩
        have hx2 : (upd H1 x (.ins CC dx (putF "ties" (.ref t) []))) x = some (.ins CC dx (f1 t)) := upd_same
        have B2 : ∀ b o, b ≠ x → H b = some o → (upd H1 x (.ins CC dx (putF "ties" (.ref t) []))) b = some o := fun b o nb eb => by rw [upd_ne nb]; exact S1 _ _ eb
        have hp2 := B2 _ _ npg hp
        -- self.guests
        obtain ⟨ga, ega⟩ : ∃ ga, ga = pg := ⟨pg, rfl⟩
        refine ⟨_, rfl, pg, gs, rfl, .inr ⟨SqT.of hp2, ?_⟩⟩
        refine ⟨_, rfl, x, CC, dx, _, rfl, hx2, c.cl, c.nG, cl1 t, ?_⟩
        rw [← ega] at hp2 npg ⊢
        have hx3 : (upd (upd H1 x (.ins CC dx (putF "ties" (.ref t) []))) x (.ins CC dx (putF "guests" (.ref ga) (f1 t)))) x = some (.ins CC dx (f2 t ga)) := upd_same
        have hg3 : (upd (upd H1 x (.ins CC dx (putF "ties" (.ref t) []))) x (.ins CC dx (putF "guests" (.ref ga) (f1 t)))) ga = some (.tup gs) := by rw [upd_ne npg]; exact hp2
        have B3 : ∀ b o, b ≠ x → H b = some o → (upd (upd H1 x (.ins CC dx (putF "ties" (.ref t) []))) x (.ins CC dx (putF "guests" (.ref ga) (f1 t)))) b = some o := fun b o nb eb => by
          rw [upd_ne nb]
          exact B2 b o nb eb
        generalize upd (upd H1 x (.ins CC dx (putF "ties" (.ref t) []))) x (.ins CC dx (putF "guests" (.ref ga) (f1 t))) = H3 at hx3 hg3 B3
        -- self.rows
        have hq3 := B3 _ _ (ne_of hq hx (by intro z; cases z)) hq
        refine ⟨_, rfl, pr, rfl, ⟨_, SqL.of hq3⟩, fun D hD => ?_⟩
        refine lc_list (K := K) (a := pr) (xs := rs) (fun i H4 => Same H3 H4 ∧ H3 D = none ∧ ∃ ps : List Addr, ps.length = i ∧ H4 D = some (.lst (ps.map V.ref)) ∧ ∀ (j : Nat) (a : Addr) (s : Sh), ps[j]? = some a → ss[j]? = some s → H4 a = some (.tup (items s)))
          ⟨new_same hD, hD, [], rfl, upd_same, fun j a s e => nomatch e⟩ (fun i H4 _ ⟨S4, _⟩ => SqL.of (S4 _ _ hq3)) ?_ ?_
        · rintro i y H4 hy ⟨S4, D0, ps, pl, eD, hps⟩
          have hi : i < rs.length := (List.getElem?_eq_some_iff.mp hy).1
          obtain ⟨s, es, isy, _⟩ := hs.at_ hy
          obtain ⟨s', es', ew⟩ := G.row (j := i) (by show i < gs.length; omega)
          obtain rfl : s = s' := by rw [es] at es'; exact Option.some.inj es'
          obtain ⟨sq, _⟩ := rowW_good ew
          refine ⟨rfl, yesT ?_⟩
          have put : ∀ (H5 : Hp) (z : Addr), Same H4 H5 → H5 z = some (.tup (items s)) → ∃ acc : List V, H5 D = some (.lst acc) ∧ acc.length < sizeLine ∧ Same H3 (upd H5 D (.lst (acc ++ [.ref z]))) ∧ H3 D = none ∧ ∃ ps : List Addr, ps.length = i + 1 ∧ (upd H5 D (.lst (acc ++ [.ref z]))) D = some (.lst (ps.map V.ref)) ∧ ∀ (j : Nat) (a : Addr) (s : Sh), ps[j]? = some a → ss[j]? = some s → (upd H5 D (.lst (acc ++ [.ref z]))) a = some (.tup (items s)) := fun H5 z S5 ez => by
            refine ⟨_, S5 _ _ eD, by rw [List.length_map, pl]; show i < 16777216; omega, fun b o eb => ?_, D0, ps ++ [z], by rw [List.length_append, pl]; rfl, by rw [upd_same, List.map_append]; rfl, fun j a s2 ea e2 => ?_⟩
            · rw [upd_ne (ne_of_none eb D0)]
              exact S5 _ _ (S4 _ _ eb)
            · rcases Nat.lt_or_ge j ps.length with hj | hj
              · rw [List.getElem?_append_left hj] at ea
                have q := S5 _ _ (hps j a s2 ea e2)
                rw [upd_ne (ne_of q (S5 _ _ eD) (by intro z; cases z))]
                exact q
              · have hj2 : j = i := by
                  have := (List.getElem?_eq_some_iff.mp ea).1
                  rw [List.length_append] at this
                  have l : [z].length = 1 := rfl
                  omega
                subst hj2
                rw [← pl, List.getElem?_append_right (Nat.le_refl _), Nat.sub_self] at ea
                obtain rfl : z = a := Option.some.inj ea
                obtain rfl : s = s2 := by rw [es] at e2; exact Option.some.inj e2
                rw [upd_ne (ne_of ez (S5 _ _ eD) (by intro z; cases z))]
                exact ez
          cases s with
          | sc u => cases sq
          | dk => cases sq
          | lst ys =>
            obtain ⟨a, rfl, ea⟩ := isy
            refine ⟨_, rfl, a, ys, rfl, .inl ⟨SqL.of (S4 _ _ (B3 _ _ (ne_of ea hx (by intro z; cases z)) ea)), fun z hz => ?_⟩⟩
            exact put _ z (new_same hz) upd_same
          | tup ys =>
            obtain ⟨a, rfl, ea⟩ := isy
            have ea4 := S4 _ _ (B3 _ _ (ne_of ea hx (by intro z; cases z)) ea)
            exact ⟨_, rfl, a, ys, rfl, .inr ⟨SqT.of ea4, put _ a (Same.refl _) ea4⟩⟩
        · rintro H4 ⟨S4, D0, ps, pl, eD, hps⟩
          refine ⟨D, _, rfl, .inl ⟨SqL.of eD, fun ra hra => ?_⟩⟩
          have hx4 := S4 _ _ hx3
          have nra : ra ≠ x := (ne_of_none hx4 hra).symm
          refine ⟨_, rfl, x, CC, dx, _, rfl, (by rw [upd_ne nra.symm]; exact hx4), c.cl, c.nR, cl2 t ga, ?_⟩
          have hx5 : (upd (upd H4 ra (.tup (ps.map V.ref))) x (.ins CC dx (putF "rows" (.ref ra) (f2 t ga)))) x = some (.ins CC dx (f3 t ga ra)) := upd_same
          have hr5 : (upd (upd H4 ra (.tup (ps.map V.ref))) x (.ins CC dx (putF "rows" (.ref ra) (f2 t ga)))) ra = some (.tup (ps.map V.ref)) := by rw [upd_ne nra, upd_same]
          have C5 : ∀ b o, b ≠ x → H4 b = some o → (upd (upd H4 ra (.tup (ps.map V.ref))) x (.ins CC dx (putF "rows" (.ref ra) (f2 t ga)))) b = some o := fun b o nb eb => by
            rw [upd_ne nb, upd_ne (ne_of_none eb hra)]
            exact eb
          generalize upd (upd H4 ra (.tup (ps.map V.ref))) x (.ins CC dx (putF "rows" (.ref ra) (f2 t ga))) = H5 at hx5 hr5 C5
          have B5 : ∀ b o, b ≠ x → H b = some o → H5 b = some o := fun b o nb eb => C5 b o nb (S4 _ _ (B3 b o nb eb))
          have hg5 := C5 _ _ (ne_of hg3 hx3 (by intro z; cases z)) (S4 _ _ hg3)
          have rows5 : ∀ (j : Nat) (a : Addr) (s : Sh), ps[j]? = some a → ss[j]? = some s → H5 a = some (.tup (items s)) := fun j a s ea e2 => by
            have q := hps j a s ea e2
            exact C5 _ _ (ne_of q hx4 (by intro z; cases z)) q
          have hT5 := hT.but0 hx B5
          have R5 : RowsAt H5 ra ns.length ps tss := ⟨hr5, by omega, fun j a ts ea ets => by
            have hj : j < ps.length := (List.getElem?_eq_some_iff.mp ea).1
            have es := List.getElem?_eq_getElem (l := ss) (i := j) (by omega)
            obtain ⟨e1, e2, e3⟩ := htss j _ ts es ets
            exact ⟨by rw [← e1]; exact rows5 j a _ ea es, e2, e3⟩⟩
          -- self.table
          refine ⟨_, rfl, _, rfl, x, CC, dx, _, _, rfl, hx5, c.cl, c.nR, f3_rows t ga ra, t, ra, ns, ps, tss, rfl, hT5, R5, by omega, fun H6 z S6 _ e6 => ?_⟩
          have hx6 := S6 _ _ hx5
          refine ⟨_, rfl, x, CC, dx, _, rfl, hx6, c.cl, c.nB, cl3 t ga ra, ?_⟩
          have hx7 : (upd H6 x (.ins CC dx (putF "table" (.ref z) (f3 t ga ra)))) x = some (.ins CC dx (f4 t ga ra z)) := upd_same
          have C67 : ∀ b o, b ≠ x → H6 b = some o → (upd H6 x (.ins CC dx (putF "table" (.ref z) (f3 t ga ra)))) b = some o := fun b o nb eb => by
            rw [upd_ne nb]
            exact eb
          have C7 : ∀ b o, b ≠ x → H5 b = some o → (upd H6 x (.ins CC dx (putF "table" (.ref z) (f3 t ga ra)))) b = some o := fun b o nb eb => by
            rw [upd_ne nb]
            exact S6 _ _ eb
          generalize upd H6 x (.ins CC dx (putF "table" (.ref z) (f3 t ga ra))) = H7 at hx7 C7 C67
          have hg7 := C7 _ _ (ne_of hg5 hx5 (by intro z; cases z)) hg5
          have hr7 := C7 _ _ (ne_of hr5 hx5 (by intro z; cases z)) hr5
          -- self._places
          refine ⟨_, rfl, x, CC, dx, _, _, rfl, hx7, c.cl, c.nG, f4_guests t ga ra z, ga, gs, rfl, SqT.of hg7, fun D2 hD2 => ?_⟩
          refine dc_enumT (K := K) (a := ga) (xs := gs) (fun i H8 => Same H7 H8 ∧ H7 D2 = none ∧ ∃ kvs : List (Key × V), kvs.length ≤ i ∧ H8 D2 = some (.dK kvs) ∧ ∀ k, valV kvs k = place (is.take i) k) ⟨new_same hD2, hD2, [], Nat.le_refl _, upd_same, fun k => by cases k <;> rfl⟩ (fun i H8 _ ⟨S8, _⟩ => SqT.of (S8 _ _ hg7)) ?_ ?_
          · rintro i y H8 T hy ⟨S8, D0', kvs, kl, eK, vK⟩ hT8
            have hi : i < gs.length := (List.getElem?_eq_some_iff.mp hy).1
            obtain ⟨n, hn, rfl⟩ : ∃ n, is[i]? = some n ∧ y = V.int n := by
              rw [kin', List.getElem?_map] at hy
              cases e : is[i]? with
              | none => rw [e] at hy; cases hy
              | some n => rw [e] at hy; exact ⟨n, rfl, (Option.some.inj hy).symm⟩
            refine ⟨T, _, rfl, SqT.of upd_same, rfl, _, _, rfl, _, _, rfl, rfl, rfl, yesT ?_⟩
            refine ⟨_, rfl, _, rfl, kvs, .inl n, rfl, by rw [upd_ne (ne_of_none eK hT8)]; exact eK, by show kvs.length < 16777216; omega, fun b o eb => ?_, D0', _, Nat.le_trans (length_putK _ _ _) (by omega), upd_same, fun k => ?_⟩
            · rw [upd_ne (ne_of_none eb D0'), upd_ne (ne_of_none (S8 _ _ eb) hT8)]
              exact S8 _ _ eb
            · rw [valV_put, place_next hn asc, vK]
          · rintro H8 ⟨S8, D0', kvs, kl, eK, vK⟩
            have hx8 := S8 _ _ hx7
            have ln : is.length = gs.length := by rw [kin', List.length_map]
            rw [show is.take gs.length = is from by rw [← ln, List.take_length]] at vK
            refine ⟨_, rfl, x, CC, dx, _, rfl, hx8, c.cl, c.nP, cl4 t ga ra z, ?_⟩
            have C9 : ∀ b o, b ≠ x → H5 b = some o → (upd H8 x (.ins CC dx (putF "_places" (.ref D2) (f4 t ga ra z)))) b = some o := fun b o nb eb => by
              rw [upd_ne nb]
              exact S8 _ _ (C7 b o nb eb)
            have B9 : ∀ b o, b ≠ x → H b = some o → (upd H8 x (.ins CC dx (putF "_places" (.ref D2) (f4 t ga ra z)))) b = some o := fun b o nb eb => C9 b o nb (B5 b o nb eb)
            have D9 : ∀ b o, b ≠ x → H6 b = some o → (upd H8 x (.ins CC dx (putF "_places" (.ref D2) (f4 t ga ra z)))) b = some o := fun b o nb eb => by
              rw [upd_ne nb]
              exact S8 _ _ (C67 b o nb eb)
            refine k2 hd _ is tss B9 kin asc (by rw [tlen]; omega) (fun j s ts e1 e2 => (htss j s ts e1 e2).1) ⟨dx, t, ga, ra, z, D2, ps, kvs, upd_same, hT.but0 hx B9, (by rw [← show gs = is.map V.int from kin]; exact C9 _ _ (ne_of hg5 hx5 (by intro z; cases z)) hg5), ⟨C9 _ _ (ne_of hr5 hx5 (by intro z; cases z)) hr5, R5.2.1, fun j a ts ea ets => ?_⟩, ?_, (by rw [upd_ne (ne_of eK hx8 (by intro z; cases z))]; exact eK), vK, asc, by rw [tlen]; omega, by omega, labs⟩
            · obtain ⟨q1, q2⟩ := R5.2.2 j a ts ea ets
              exact ⟨C9 _ _ (ne_of q1 hx5 (by intro z; cases z)) q1, q2⟩
            · obtain ⟨us, u1, u2, u3⟩ := e6
              refine ⟨us, D9 _ _ (ne_of u1 hx6 (by intro z; cases z)) u1, u2, fun a u e => ?_⟩
              obtain ⟨xs, w1, w2⟩ := u3 a u e
              exact ⟨xs, D9 _ _ (ne_of w1 hx6 (by intro z; cases z)) w1, w2⟩
      | tup rs =>
        obtain ⟨pg, rfl, hp⟩ := hg
        obtain ⟨pr, rfl, hq⟩ := hrr
        refine ⟨_, (pss_cons 
    (ps_expr (pcal GK hr (passes_call (takes_of rfl rfl rfl rfl) (fun _ _ _ _ h => h)) (pa_cons (pv 1) (pa_cons (pv 2) (pa_cons (pv 3) pa_nil))))) (pss_cons 
    (ps_fld (pv 0) (pv 1) rfl) (pss_cons 
    (ps_fld (pv 0) (pe_callTy (T := "tuple") (r := rTup K) call_tuple_of (by rfl) nt (by decide +kernel) (pa_cons (pv 2) pa_nil)) rfl) (pss_cons 
    (ps_fld (pv 0) (pe_callTy (T := "tuple") (r := rTup K) call_tuple_of (by rfl) nt (by decide +kernel) (pa_cons (pe_lc (own := [("row", 4)]) (g := gName 4) (by rfl) sc_Company_init.nd (pi_tup (pv 3)) (blkOk_by (own := [("row", 4)]) (N := ["self", "ties", "guests", "rows", "row", "place", "label"]) (sc := defScope s_Company_init) (by decide +kernel)) (fun _ _ _ _ _ => pg_name (i := 4) sc_Company_init.nd rfl (Or.inl rfl)) (fun _ _ _ _ _ => pts_nil) (fun _ _ _ _ _ => (pe_callTy (T := "tuple") (r := rTup K) call_tuple_of (by rfl) nt (by decide +kernel) (pa_cons (pv 4) pa_nil)))) pa_nil)) rfl) (pss_cons 
    (ps_fld (pv 0) (pcal GT hr pass0 (pa_cons (pv 1) (pa_cons (pe_fld (pv 0) rfl) pa_nil))) rfl) (pss_one 
    (ps_fld (pv 0) (pe_dc (own := [("place", 5), ("label", 6)]) (g := gTup K 2 (gCons (gName 5) (gCons (gName 6) gNil))) (by rfl) sc_Company_init.nd (pi_enumT (by rfl) ne (pa_cons (pe_fld (pv 0) rfl) pa_nil)) (blkOk_by (own := [("place", 5), ("label", 6)]) (N := ["self", "ties", "guests", "rows", "row", "place", "label"]) (sc := defScope s_Company_init) (by decide +kernel)) (fun _ _ _ _ _ => pg_tup (by rfl) (pgs_cons (pg_name (i := 5) sc_Company_init.nd rfl (Or.inl rfl)) (pgs_cons (pg_name (i := 6) sc_Company_init.nd rfl (Or.inl rfl)) pgs_nil))) (fun _ _ _ _ _ => pts_nil) (fun _ _ _ _ _ => pv 6) (fun _ _ _ _ _ => pv 5)) rfl))))))), ?_⟩
        refine ⟨_, rfl, _, rfl, _, rfl, t, ns, _, _, Sh.tup gs, Sh.tup rs, ss, rfl, hT, ⟨pg, rfl, hp⟩, kg, ⟨pr, rfl, hq⟩, hs, lg, k1, fun hd H1 S1 => ?_⟩
        have G := goodC_of hd
        have hx1 := S1 _ _ hx
        have hp1 := S1 _ _ hp
        have hq1 := S1 _ _ hq
        have hT1 := hT.keep S1
        obtain ⟨is, kin⟩ := G.ints
        have asc := G.asc kin
        have labs := G.labels kin
        have kin' : gs = is.map V.int := kin
        have gful : gs.length ≤ ss.length := G.full
        obtain ⟨tss, tlen, htss⟩ : ∃ tss : List (List Int), tss.length = ss.length ∧ ∀ (j : Nat) (s : Sh) (ts : List Int), ss[j]? = some s → tss[j]? = some ts → items s = ts.map V.int ∧ ts.length = j ∧ ∀ t ∈ ts, 0 ≤ t ∧ t < (ns.length : Nat) := G.tss (by show ss.length ≤ gs.length; have := hs.len; have := G.ln; have : rs.length ≤ gs.length := G.ln; have : rs.length = ss.length := hs.len; omega)
        have gle : gs.length ≤ 60 := G.le
        have rle : rs.length ≤ gs.length := G.ln
        have npg : pg ≠ x := ne_of hp hx (by intro z; cases z)
        have sl : rs.length = ss.length := hs.len
        -- self.ties
        refine ⟨_, rfl, _, rfl, x, CC, dx, [], rfl, hx1, c.cl, c.nT, (by decide), ?_⟩
        have hx2 : (upd H1 x (.ins CC dx (putF "ties" (.ref t) []))) x = some (.ins CC dx (f1 t)) := upd_same
        have B2 : ∀ b o, b ≠ x → H b = some o → (upd H1 x (.ins CC dx (putF "ties" (.ref t) []))) b = some o := fun b o nb eb => by rw [upd_ne nb]; exact S1 _ _ eb
        have hp2 := B2 _ _ npg hp
        -- self.guests
        obtain ⟨ga, ega⟩ : ∃ ga, ga = pg := ⟨pg, rfl⟩
        refine ⟨_, rfl, pg, gs, rfl, .inr ⟨SqT.of hp2, ?_⟩⟩
        refine ⟨_, rfl, x, CC, dx, _, rfl, hx2, c.cl, c.nG, cl1 t, ?_⟩
        rw [← ega] at hp2 npg ⊢
        have hx3 : (upd (upd H1 x (.ins CC dx (putF "ties" (.ref t) []))) x (.ins CC dx (putF "guests" (.ref ga) (f1 t)))) x = some (.ins CC dx (f2 t ga)) := upd_same
        have hg3 : (upd (upd H1 x (.ins CC dx (putF "ties" (.ref t) []))) x (.ins CC dx (putF "guests" (.ref ga) (f1 t)))) ga = some (.tup gs) := by rw [upd_ne npg]; exact hp2
        have B3 : ∀ b o, b ≠ x → H b = some o → (upd (upd H1 x (.ins CC dx (putF "ties" (.ref t) []))) x (.ins CC dx (putF "guests" (.ref ga) (f1 t)))) b = some o := fun b o nb eb => by
          rw [upd_ne nb]
          exact B2 b o nb eb
        generalize upd (upd H1 x (.ins CC dx (putF "ties" (.ref t) []))) x (.ins CC dx (putF "guests" (.ref ga) (f1 t))) = H3 at hx3 hg3 B3
        -- self.rows
        have hq3 := B3 _ _ (ne_of hq hx (by intro z; cases z)) hq
        refine ⟨_, rfl, pr, rfl, ⟨_, SqT.of hq3⟩, fun D hD => ?_⟩
        refine lc_tup (K := K) (a := pr) (xs := rs) (fun i H4 => Same H3 H4 ∧ H3 D = none ∧ ∃ ps : List Addr, ps.length = i ∧ H4 D = some (.lst (ps.map V.ref)) ∧ ∀ (j : Nat) (a : Addr) (s : Sh), ps[j]? = some a → ss[j]? = some s → H4 a = some (.tup (items s)))
          ⟨new_same hD, hD, [], rfl, upd_same, fun j a s e => nomatch e⟩ (fun i H4 _ ⟨S4, _⟩ => SqT.of (S4 _ _ hq3)) ?_ ?_
        · rintro i y H4 hy ⟨S4, D0, ps, pl, eD, hps⟩
          have hi : i < rs.length := (List.getElem?_eq_some_iff.mp hy).1
          obtain ⟨s, es, isy, _⟩ := hs.at_ hy
          obtain ⟨s', es', ew⟩ := G.row (j := i) (by show i < gs.length; omega)
          obtain rfl : s = s' := by rw [es] at es'; exact Option.some.inj es'
          obtain ⟨sq, _⟩ := rowW_good ew
          refine ⟨rfl, yesT ?_⟩
          have put : ∀ (H5 : Hp) (z : Addr), Same H4 H5 → H5 z = some (.tup (items s)) → ∃ acc : List V, H5 D = some (.lst acc) ∧ acc.length < sizeLine ∧ Same H3 (upd H5 D (.lst (acc ++ [.ref z]))) ∧ H3 D = none ∧ ∃ ps : List Addr, ps.length = i + 1 ∧ (upd H5 D (.lst (acc ++ [.ref z]))) D = some (.lst (ps.map V.ref)) ∧ ∀ (j : Nat) (a : Addr) (s : Sh), ps[j]? = some a → ss[j]? = some s → (upd H5 D (.lst (acc ++ [.ref z]))) a = some (.tup (items s)) := fun H5 z S5 ez => by
            refine ⟨_, S5 _ _ eD, by rw [List.length_map, pl]; show i < 16777216; omega, fun b o eb => ?_, D0, ps ++ [z], by rw [List.length_append, pl]; rfl, by rw [upd_same, List.map_append]; rfl, fun j a s2 ea e2 => ?_⟩
            · rw [upd_ne (ne_of_none eb D0)]
              exact S5 _ _ (S4 _ _ eb)
            · rcases Nat.lt_or_ge j ps.length with hj | hj
              · rw [List.getElem?_append_left hj] at ea
                have q := S5 _ _ (hps j a s2 ea e2)
                rw [upd_ne (ne_of q (S5 _ _ eD) (by intro z; cases z))]
                exact q
              · have hj2 : j = i := by
                  have := (List.getElem?_eq_some_iff.mp ea).1
                  rw [List.length_append] at this
                  have l : [z].length = 1 := rfl
                  omega
                subst hj2
                rw [← pl, List.getElem?_append_right (Nat.le_refl _), Nat.sub_self] at ea
                obtain rfl : z = a := Option.some.inj ea
                obtain rfl : s = s2 := by rw [es] at e2; exact Option.some.inj e2
                rw [upd_ne (ne_of ez (S5 _ _ eD) (by intro z; cases z))]
                exact ez
          cases s with
          | sc u => cases sq
          | dk => cases sq
          | lst ys =>
            obtain ⟨a, rfl, ea⟩ := isy
            refine ⟨_, rfl, a, ys, rfl, .inl ⟨SqL.of (S4 _ _ (B3 _ _ (ne_of ea hx (by intro z; cases z)) ea)), fun z hz => ?_⟩⟩
            exact put _ z (new_same hz) upd_same
          | tup ys =>
            obtain ⟨a, rfl, ea⟩ := isy
            have ea4 := S4 _ _ (B3 _ _ (ne_of ea hx (by intro z; cases z)) ea)
            exact ⟨_, rfl, a, ys, rfl, .inr ⟨SqT.of ea4, put _ a (Same.refl _) ea4⟩⟩
        · rintro H4 ⟨S4, D0, ps, pl, eD, hps⟩
          refine ⟨D, _, rfl, .inl ⟨SqL.of eD, fun ra hra => ?_⟩⟩
          have hx4 := S4 _ _ hx3
          have nra : ra ≠ x := (ne_of_none hx4 hra).symm
          refine ⟨_, rfl, x, CC, dx, _, rfl, (by rw [upd_ne nra.symm]; exact hx4), c.cl, c.nR, cl2 t ga, ?_⟩
          have hx5 : (upd (upd H4 ra (.tup (ps.map V.ref))) x (.ins CC dx (putF "rows" (.ref ra) (f2 t ga)))) x = some (.ins CC dx (f3 t ga ra)) := upd_same
          have hr5 : (upd (upd H4 ra (.tup (ps.map V.ref))) x (.ins CC dx (putF "rows" (.ref ra) (f2 t ga)))) ra = some (.tup (ps.map V.ref)) := by rw [upd_ne nra, upd_same]
          have C5 : ∀ b o, b ≠ x → H4 b = some o → (upd (upd H4 ra (.tup (ps.map V.ref))) x (.ins CC dx (putF "rows" (.ref ra) (f2 t ga)))) b = some o := fun b o nb eb => by
            rw [upd_ne nb, upd_ne (ne_of_none eb hra)]
            exact eb
          generalize upd (upd H4 ra (.tup (ps.map V.ref))) x (.ins CC dx (putF "rows" (.ref ra) (f2 t ga))) = H5 at hx5 hr5 C5
          have B5 : ∀ b o, b ≠ x → H b = some o → H5 b = some o := fun b o nb eb => C5 b o nb (S4 _ _ (B3 b o nb eb))
          have hg5 := C5 _ _ (ne_of hg3 hx3 (by intro z; cases z)) (S4 _ _ hg3)
          have rows5 : ∀ (j : Nat) (a : Addr) (s : Sh), ps[j]? = some a → ss[j]? = some s → H5 a = some (.tup (items s)) := fun j a s ea e2 => by
            have q := hps j a s ea e2
            exact C5 _ _ (ne_of q hx4 (by intro z; cases z)) q
          have hT5 := hT.but0 hx B5
          have R5 : RowsAt H5 ra ns.length ps tss := ⟨hr5, by omega, fun j a ts ea ets => by
            have hj : j < ps.length := (List.getElem?_eq_some_iff.mp ea).1
            have es := List.getElem?_eq_getElem (l := ss) (i := j) (by omega)
            obtain ⟨e1, e2, e3⟩ := htss j _ ts es ets
            exact ⟨by rw [← e1]; exact rows5 j a _ ea es, e2, e3⟩⟩
          -- self.table
          refine ⟨_, rfl, _, rfl, x, CC, dx, _, _, rfl, hx5, c.cl, c.nR, f3_rows t ga ra, t, ra, ns, ps, tss, rfl, hT5, R5, by omega, fun H6 z S6 _ e6 => ?_⟩
          have hx6 := S6 _ _ hx5
          refine ⟨_, rfl, x, CC, dx, _, rfl, hx6, c.cl, c.nB, cl3 t ga ra, ?_⟩
          have hx7 : (upd H6 x (.ins CC dx (putF "table" (.ref z) (f3 t ga ra)))) x = some (.ins CC dx (f4 t ga ra z)) := upd_same
          have C67 : ∀ b o, b ≠ x → H6 b = some o → (upd H6 x (.ins CC dx (putF "table" (.ref z) (f3 t ga ra)))) b = some o := fun b o nb eb => by
            rw [upd_ne nb]
            exact eb
          have C7 : ∀ b o, b ≠ x → H5 b = some o → (upd H6 x (.ins CC dx (putF "table" (.ref z) (f3 t ga ra)))) b = some o := fun b o nb eb => by
            rw [upd_ne nb]
            exact S6 _ _ eb
          generalize upd H6 x (.ins CC dx (putF "table" (.ref z) (f3 t ga ra))) = H7 at hx7 C7 C67
          have hg7 := C7 _ _ (ne_of hg5 hx5 (by intro z; cases z)) hg5
          have hr7 := C7 _ _ (ne_of hr5 hx5 (by intro z; cases z)) hr5
          -- self._places
          refine ⟨_, rfl, x, CC, dx, _, _, rfl, hx7, c.cl, c.nG, f4_guests t ga ra z, ga, gs, rfl, SqT.of hg7, fun D2 hD2 => ?_⟩
          refine dc_enumT (K := K) (a := ga) (xs := gs) (fun i H8 => Same H7 H8 ∧ H7 D2 = none ∧ ∃ kvs : List (Key × V), kvs.length ≤ i ∧ H8 D2 = some (.dK kvs) ∧ ∀ k, valV kvs k = place (is.take i) k) ⟨new_same hD2, hD2, [], Nat.le_refl _, upd_same, fun k => by cases k <;> rfl⟩ (fun i H8 _ ⟨S8, _⟩ => SqT.of (S8 _ _ hg7)) ?_ ?_
          · rintro i y H8 T hy ⟨S8, D0', kvs, kl, eK, vK⟩ hT8
            have hi : i < gs.length := (List.getElem?_eq_some_iff.mp hy).1
            obtain ⟨n, hn, rfl⟩ : ∃ n, is[i]? = some n ∧ y = V.int n := by
              rw [kin', List.getElem?_map] at hy
              cases e : is[i]? with
              | none => rw [e] at hy; cases hy
              | some n => rw [e] at hy; exact ⟨n, rfl, (Option.some.inj hy).symm⟩
            refine ⟨T, _, rfl, SqT.of upd_same, rfl, _, _, rfl, _, _, rfl, rfl, rfl, yesT ?_⟩
            refine ⟨_, rfl, _, rfl, kvs, .inl n, rfl, by rw [upd_ne (ne_of_none eK hT8)]; exact eK, by show kvs.length < 16777216; omega, fun b o eb => ?_, D0', _, Nat.le_trans (length_putK _ _ _) (by omega), upd_same, fun k => ?_⟩
            · rw [upd_ne (ne_of_none eb D0'), upd_ne (ne_of_none (S8 _ _ eb) hT8)]
              exact S8 _ _ eb
            · rw [valV_put, place_next hn asc, vK]
          · rintro H8 ⟨S8, D0', kvs, kl, eK, vK⟩
            have hx8 := S8 _ _ hx7
            have ln : is.length = gs.length := by rw [kin', List.length_map]
            rw [show is.take gs.length = is from by rw [← ln, List.take_length]] at vK
            refine ⟨_, rfl, x, CC, dx, _, rfl, hx8, c.cl, c.nP, cl4 t ga ra z, ?_⟩
            have C9 : ∀ b o, b ≠ x → H5 b = some o → (upd H8 x (.ins CC dx (putF "_places" (.ref D2) (f4 t ga ra z)))) b = some o := fun b o nb eb => by
              rw [upd_ne nb]
              exact S8 _ _ (C7 b o nb eb)
            have B9 : ∀ b o, b ≠ x → H b = some o → (upd H8 x (.ins CC dx (putF "_places" (.ref D2) (f4 t ga ra z)))) b = some o := fun b o nb eb => C9 b o nb (B5 b o nb eb)
            have D9 : ∀ b o, b ≠ x → H6 b = some o → (upd H8 x (.ins CC dx (putF "_places" (.ref D2) (f4 t ga ra z)))) b = some o := fun b o nb eb => by
              rw [upd_ne nb]
              exact S8 _ _ (C67 b o nb eb)
            refine k2 hd _ is tss B9 kin asc (by rw [tlen]; omega) (fun j s ts e1 e2 => (htss j s ts e1 e2).1) ⟨dx, t, ga, ra, z, D2, ps, kvs, upd_same, hT.but0 hx B9, (by rw [← show gs = is.map V.int from kin]; exact C9 _ _ (ne_of hg5 hx5 (by intro z; cases z)) hg5), ⟨C9 _ _ (ne_of hr5 hx5 (by intro z; cases z)) hr5, R5.2.1, fun j a ts ea ets => ?_⟩, ?_, (by rw [upd_ne (ne_of eK hx8 (by intro z; cases z))]; exact eK), vK, asc, by rw [tlen]; omega, by omega, labs⟩
            · obtain ⟨q1, q2⟩ := R5.2.2 j a ts ea ets
              exact ⟨C9 _ _ (ne_of q1 hx5 (by intro z; cases z)) q1, q2⟩
            · obtain ⟨us, u1, u2, u3⟩ := e6
              refine ⟨us, D9 _ _ (ne_of u1 hx6 (by intro z; cases z)) u1, u2, fun a u e => ?_⟩
              obtain ⟨xs, w1, w2⟩ := u3 a u e
              exact ⟨xs, D9 _ _ (ne_of w1 hx6 (by intro z; cases z)) w1, w2⟩
end
end J

set_option Elab.async false
set_option linter.all false
set_option maxRecDepth 100000
set_option maxHeartbeats 4000000
namespace J
open PySem PySem.Spec PyProof.Rows L2
theorem cf_places (t g r b p : Addr) : (cf t g r b p).lookup ("_places" : Str) = some (.ref p) := by
  unfold cf
  rw [lookup_putF, if_pos rfl]
theorem cf_table (t g r b p : Addr) : (cf t g r b p).lookup ("table" : Str) = some (.ref b) := by
  unfold cf f4
  rw [lookup_putF, if_neg ne_table__places, lookup_putF, if_pos rfl]
theorem cf_ties (t g r b p : Addr) : (cf t g r b p).lookup ("ties" : Str) = some (.ref t) := by
  unfold cf f4 f3 f2 f1
  rw [lookup_putF, if_neg ne_ties__places, lookup_putF, if_neg ne_ties_table, lookup_putF, if_neg ne_ties_rows, lookup_putF, if_neg ne_ties_guests, lookup_putF, if_pos rfl]
theorem cf_no (t g r b p : Addr) {m : Str} (h1 : ¬ m = "_places") (h2 : ¬ m = "table") (h3 : ¬ m = "rows") (h4 : ¬ m = "guests") (h5 : ¬ m = "ties") : (cf t g r b p).lookup m = none := by
  unfold cf f4 f3 f2 f1
  rw [lookup_putF, if_neg h1, lookup_putF, if_neg h2, lookup_putF, if_neg h3, lookup_putF, if_neg h4, lookup_putF, if_neg h5]
  rfl
/-- where v stands among the guests is -/
def seat (is : List Int) (v : V) : Option Nat := match v with
  | .int n => is.findIdx? fun y => decide (y = n)
  | _ => none
theorem seat_at {is : List Int} (a : Asc is) {j : Nat} {n : Int} (h : is[j]? = some n) : seat is (.int n) = some j := by
  show is.findIdx? _ = some j
  rw [List.findIdx?_eq_some_iff_getElem]
  have hj := (List.getElem?_eq_some_iff.mp h).1
  refine ⟨hj, decide_eq_true (List.getElem?_eq_some_iff.mp h).2, fun i hi => ?_⟩
  have e := List.getElem?_eq_getElem (l := is) (i := i) (by omega)
  intro q
  have q' := of_decide_eq_true q
  rw [q'] at e
  have := a.inj e h
  omega
theorem seat_some {is : List Int} {v : V} {j : Nat} (h : seat is v = some j) : ∃ n, v = .int n ∧ is[j]? = some n ∧ j < is.length := by
  cases v with
  | int n =>
    have h' : is.findIdx? (fun y => decide (y = n)) = some j := h
    rw [List.findIdx?_eq_some_iff_getElem] at h'
    obtain ⟨hj, e, _⟩ := h'
    have e' := of_decide_eq_true e
    exact ⟨n, rfl, by rw [List.getElem?_eq_getElem hj, e'], hj⟩
  | _ => cases h
section
variable {P : Program} {w : World} {K : PySem.W.Frag} {mg : Str → Option Value} {base : Heap}
end
end J

set_option Elab.async false
set_option linter.all false
set_option maxRecDepth 100000
set_option maxHeartbeats 4000000
namespace J
open PySem PySem.Spec PyProof.Rows L2
/-! ### labels that are drawn -/
abbrev s_Llabels : Stmt := top 49
theorem sc_Llabels : FnScope ["_law_hand_here", "_law_many", "_law_base", "_law_step", "_law_k"] ["_law_hand_here", "_law_many"] (defScope s_Llabels) := ⟨rfl, rfl, rfl, by decide +kernel, rfl, by decide +kernel, by decide +kernel⟩
def spLabels : Sp := fun vs H Q _ => ∃ (h q : Addr) (m : Nat), vs = [.ref h, .int (m : Nat)] ∧ m ≤ 1000 ∧ Hand H h q ∧ ∀ (H' : Hp) (l : Addr) (ns : List Int), ns.length = m → Asc ns → (∀ n ∈ ns, 0 ≤ n ∧ n ≤ 1000000000) → But h H H' → Hand H' h q → H l = none → H' l = some (.lst (ns.map V.int)) → Q (.ref l) H'
/-- labels by a first one and a step -/
def LabOk (m : Nat) (c d : Int) : Prop := 0 ≤ c ∧ 1 ≤ d ∧ ∀ k : Nat, k < m → c + (k : Int) * d ≤ 1000000000
def labsOf (m : Nat) (c d : Int) : List Int := (List.range m).map fun k => c + (0 + ((k : Nat) : Int)) * d
theorem labs_at {m : Nat} {c d : Int} {i : Nat} {a : Int} (e : (labsOf m c d)[i]? = some a) : i < m ∧ a = c + (i : Int) * d := by
  have hi := (List.getElem?_eq_some_iff.mp e).1
  unfold labsOf at hi e
  rw [List.length_map, List.length_range] at hi
  rw [List.getElem?_map, List.getElem?_range hi] at e
  have q : c + (0 + (i : Int)) * d = a := Option.some.inj e
  rw [Int.zero_add] at q
  exact ⟨hi, q.symm⟩
theorem labs_asc {m : Nat} {c d : Int} (h : LabOk m c d) : Asc (labsOf m c d) := by
  intro i a b e1 e2
  obtain ⟨_, rfl⟩ := labs_at e1
  obtain ⟨_, rfl⟩ := labs_at e2
  have h1 := h.2.1
  have : ((i + 1 : Nat) : Int) * d = (i : Int) * d + d := by
    rw [show ((i + 1 : Nat) : Int) = (i : Int) + 1 by omega, Int.add_mul, Int.one_mul]
  omega
theorem labs_in {m : Nat} {c d : Int} (h : LabOk m c d) : ∀ n ∈ labsOf m c d, 0 ≤ n ∧ n ≤ 1000000000 := by
  intro n hn
  obtain ⟨i, e⟩ := List.getElem?_of_mem hn
  obtain ⟨hi, rfl⟩ := labs_at e
  have h0 := h.1
  have h1 := h.2.1
  have h2 := h.2.2 i hi
  have h3 : 0 ≤ (i : Int) * d := Int.mul_nonneg (by omega) (by omega)
  omega
theorem labs_small {m : Nat} {c d : Int} (hm : m ≤ 1000) (h0 : 0 ≤ c) (h3 : c < 3) (hd : d = 1) : LabOk m c d := by
  subst hd
  refine ⟨h0, by omega, fun k hk => ?_⟩
  rw [Int.mul_one]
  omega
theorem labs_wide {m : Nat} {c e u : Int} (hu : (if ((m : Nat) : Int) > 1 then ((m : Nat) : Int) else 1) = u) (u0 : 0 < u) (c0 : 0 ≤ c) (c1 : c < 100000000) (e0 : 0 ≤ e) (e1 : e < 9 * 100000000 / u) : LabOk m c (1 + e) := by
  refine ⟨c0, by omega, fun k hk => ?_⟩
  have hm : (m : Int) ≤ u := by
    rw [← hu]
    split <;> omega
  have h1 : (1 + e) * u ≤ 9 * 100000000 := Int.mul_le_of_le_ediv u0 (by omega)
  have h2 : (k : Int) * (1 + e) ≤ u * (1 + e) := Int.mul_le_mul_of_nonneg_right (by omega) (by omega)
  rw [Int.mul_comm u] at h2
  omega
section
variable {P : Program} {w : World} {K : PySem.W.Frag} {mg : Str → Option Value} {base : Heap}
theorem ok_Llabels {f fD : Addr} {fd fdD : FuncData} (F : Fun K "_law_labels" "_law_labels" s_Llabels f fd) (nr : mg "range" = none) (nm : mg "max" = none) (GD : Cal P w K mg base CX0 2 "_law_draw" fD fdD ["_law_hand_here", "_law_many"] spDraw) : FnOk P w K mg base CX0 3 f fd ["_law_hand_here", "_law_many"] spLabels := by
  refine F.ok sc_Llabels (fun vs H Q E h => ?_) (fun cdv A outer s H vs Q E hr h => ?_)
  · obtain ⟨h, q, m, rfl, _⟩ := h
    rfl
  · obtain ⟨h, q, m, rfl, hm, hh, k⟩ := h
    refine ⟨_, (pss_cons 
  (ps_set (i := 2) sc_Llabels.nd rfl (Or.inr rfl) (pcal GD hr pass0 (pa_cons (pv 0) (pa_cons pe_int pa_nil)))) (pss_cons 
  (ps_set (i := 3) sc_Llabels.nd rfl (Or.inr rfl) pe_int) (C8.pss_cut 
  (ps_if (pt_cmpR op_eq (pcal GD hr pass0 (pa_cons (pv 0) (pa_cons pe_int pa_nil))) pe_int (nomark _)) (pss_cons 
    (ps_set (i := 2) sc_Llabels.nd rfl (Or.inr rfl) (pcal GD hr pass0 (pa_cons (pv 0) (pa_cons (pe_op op_pow pe_int pe_int) pa_nil)))) (pss_one 
    (ps_set (i := 3) sc_Llabels.nd rfl (Or.inr rfl) (pe_op op_add pe_int (pcal GD hr pass0 (pa_cons (pv 0) (pa_cons (pe_op op_fdivW (pe_op op_mul pe_int (pe_op op_pow pe_int pe_int)) (pe_callB (call_max2 rfl) (by rfl) nm (by decide +kernel) (pa_cons pe_int (pa_cons (pv 1) pa_nil)))) pa_nil))))))) pss_nil) (pss_one 
  (ps_ret (pe_lc (own := [("_law_k", 4)]) (g := gName 4) (by rfl) sc_Llabels.nd (pi_range1 (by rfl) nr (pa_cons (pv 1) pa_nil)) (blkOk_by (own := [("_law_k", 4)]) (N := ["_law_hand_here", "_law_many", "_law_base", "_law_step", "_law_k"]) (sc := defScope s_Llabels) (by decide +kernel)) (fun _ _ _ _ _ => pg_name (i := 4) sc_Llabels.nd rfl (Or.inl rfl)) (fun _ _ _ _ _ => pts_nil) (fun _ _ _ _ _ => (pe_op op_add (pv 2) (pe_op op_mul (pv 4) (pv 3)))))))))), ?_⟩
    refine ⟨_, rfl, h, q, 3, rfl, by decide, by decide, hh, fun b H1 b0 b1 B1 h1 => ⟨fun σ' H' => ∃ c d : Int, σ' = [some (.ref h), some (.int (m : Nat)), some (.int c), some (.int d), none] ∧ LabOk m c d ∧ But h H H' ∧ Hand H' h q, ?_, ?_⟩⟩
    · refine ⟨_, rfl, h, q, 2, rfl, by decide, by decide, h1, fun z H2 z0 z1 B2 h2 => ⟨rfl, _, rfl, ?_⟩⟩
      refine ifD (fun c => ?_) (fun c => ⟨_, _, rfl, labs_small hm b0 b1 rfl, B1.trans B2, h2⟩)
      refine ⟨_, rfl, _, _, rfl, rfl, ⟨by decide, by decide, by decide⟩, h, q, _, rfl, by decide +kernel, by decide +kernel, h2, fun c2 H3 c0 c1 B3 h3 => ?_⟩
      have e9 : (10 : Int) ^ (8 : Int).toNat = 100000000 := by decide +kernel
      have mx : ∃ u : Int, (if ((m : Nat) : Int) > 1 then ((m : Nat) : Int) else 1) = u ∧ 0 < u ∧ u ≤ 1000 := by
        refine ⟨_, rfl, ?_⟩
        split <;> omega
      obtain ⟨u, eu, u0, u1⟩ := mx
      refine ⟨_, rfl, _, _, rfl, rfl, ⟨by decide, by decide, by decide⟩, _, _, rfl, rfl, .inl ⟨by decide, by decide⟩, _, rfl, _, _, rfl, ?_⟩
      rw [eu, e9]
      refine ⟨_, _, rfl, rfl, wide_div (b := 62) u0 (by omega) (by decide) (by decide), h, q, _, rfl, ?_, ?_, h3, fun c3 H4 y0 y1 B4 h4 => ⟨_, _, rfl, rfl, _, _, rfl, labs_wide eu u0 c0 (by rw [e9] at c1; exact c1) y0 y1, ((B1.trans B2).trans B3).trans B4, h4⟩⟩
      · have := Int.le_ediv_of_mul_le (a := 1) (b := 9 * 100000000) u0 (by omega)
        show (0 : Int) < 9 * 100000000 / u
        omega
      · have := Int.ediv_le_self (a := 9 * 100000000) u (by decide)
        show (9 * 100000000 / u : Int) < 2 ^ 62
        omega
    · rintro σ' H' ⟨c, d, rfl, LO, B, hh'⟩
      refine ⟨_, rfl, (m : Nat), rfl, by omega, by omega, fun D hD => ?_⟩
      have nD := (hh'.h_ne hD).1
      refine lc_range (lo := 0) (n := m) (fun i H5 => H5 D = some (.lst ((labsOf i c d).map V.int)) ∧ Same H' H5 ∧ H' D = none) ⟨upd_same, new_same hD, hD⟩ ?_ ?_
      · rintro i H5 hi ⟨eD, S5, D0⟩
        refine ⟨rfl, yesT ?_⟩
        refine ⟨_, rfl, _, rfl, _, rfl, _, _, rfl, rfl, .inl ⟨by omega, by omega⟩, _, _, rfl, rfl, _, eD, ?_, by rw [upd_same]; unfold labsOf; rw [List.range_succ, List.map_append, List.map_append]; rfl, fun b o e => ?_, D0⟩
        · rw [List.length_map]
          unfold labsOf
          rw [List.length_map, List.length_range]
          exact small1000 (by omega)
        · rw [upd_ne (ne_of_none e D0)]
          exact S5 _ _ e
      · rintro H5 ⟨eD, S5, D0⟩
        exact k H5 D (labsOf m c d) (by unfold labsOf; rw [List.length_map, List.length_range]) (labs_asc LO) (labs_in LO) (B.trans (But.same S5)) (hh'.keep S5) (B.free nD.symm D0) eD
end
end J

set_option Elab.async false
set_option linter.all false
set_option maxRecDepth 100000
set_option maxHeartbeats 4000000
namespace J
open PySem PySem.Spec PyProof.Rows L2
/-! ### objects are made: Ties, Company -/
/-- rows of ties: each as long as its place -/
def Rows (m : Nat) (tss : List (List Int)) : Prop := ∀ (j : Nat) (ts : List Int), tss[j]? = some ts → ts.length = j ∧ ∀ t ∈ ts, 0 ≤ t ∧ t < (m : Nat)
def LinesAt (H : Hp) (l : Addr) (ps : List Addr) (tss : List (List Int)) : Prop := H l = some (.lst (ps.map V.ref)) ∧ ps.length = tss.length ∧ ∀ (j : Nat) (a : Addr) (ts : List Int), ps[j]? = some a → tss[j]? = some ts → a ≠ l ∧ H a = some (.lst (ts.map V.int))
theorem LinesAt.keep {H H' : Hp} {l : Addr} {ps : List Addr} {tss : List (List Int)} (h : LinesAt H l ps tss) (S : Same H H') : LinesAt H' l ps tss :=
  ⟨S _ _ h.1, h.2.1, fun j a ts e1 e2 => ⟨(h.2.2 j a ts e1 e2).1, S _ _ (h.2.2 j a ts e1 e2).2⟩⟩
theorem rowW_ok {m n : Nat} {s : Sh} {ts : List Int} (sq : (s.isL || s.isT) = true) (hi : items s = ts.map V.int) (hl : ts.length = n) (hr : ∀ t ∈ ts, 0 ≤ t ∧ t < (m : Nat)) : rowW m n s = none := by
  unfold rowW
  rw [if_pos sq, hi, List.length_map, if_pos hl, if_pos]
  intro x hx
  obtain ⟨t, ht, rfl⟩ := List.mem_map.mp hx
  obtain ⟨a, b⟩ := hr t ht
  show (decide (0 ≤ t) && decide (t ≤ ((m : Nat) : Int) - 1)) = true
  rw [decide_eq_true a, decide_eq_true (by omega)]
  rfl
/-- rows as they are handed in: shapes of sequences that hold these ints -/
def ShRows (ss : List Sh) (tss : List (List Int)) : Prop := ss.length = tss.length ∧ ∀ (j : Nat) (s : Sh) (ts : List Int), ss[j]? = some s → tss[j]? = some ts → (s.isL || s.isT) = true ∧ items s = ts.map V.int
theorem due_good {m : Nat} {sg sr : Sh} {ss : List Sh} {is : List Int} {tss : List (List Int)} (qg : (sg.isL || sg.isT) = true) (qr : (sr.isL || sr.isT) = true) (hg : items sg = is.map V.int) (hr : (items sr).length = ss.length) (S : ShRows ss tss) (tl : tss.length = is.length)
    (l60 : is.length ≤ 60) (asc : Asc is) (labs : ∀ n ∈ is, 0 ≤ n ∧ n ≤ 1000000000) (R : Rows m tss) : dueC m sg sr ss = none := by
  have gl : (items sg).length = is.length := by rw [hg, List.length_map]
  refine due_ok (by rw [qg, qr]; rfl) (by omega) (fun j hj => ?_) (by have := S.1; omega)
  have hji : j < is.length := by omega
  have ij := List.getElem?_eq_getElem hji
  have tj := List.getElem?_eq_getElem (l := tss) (i := j) (by omega)
  have sj := List.getElem?_eq_getElem (l := ss) (i := j) (by have := S.1; omega)
  obtain ⟨q1, q2⟩ := S.2 j _ _ sj tj
  obtain ⟨r1, r2⟩ := R j _ tj
  have gj : (items sg)[j]? = some (.int is[j]) := by rw [hg, List.getElem?_map, ij]; rfl
  obtain ⟨b0, b1⟩ := labs _ (List.mem_of_getElem? ij)
  have wl : wholeB (.int is[j]) 0 1000000000 = true := by
    show (decide (0 ≤ is[j]) && decide (is[j] ≤ 1000000000)) = true
    rw [decide_eq_true b0, decide_eq_true b1]
    rfl
  have o : ordB (items sg) j = false := by
    cases j with
    | zero => exact ord_zero
    | succ j =>
      have ij' := List.getElem?_eq_getElem (l := is) (i := j) (by omega)
      rw [ord_ints (a := is[j]) (by rw [hg, List.getElem?_map, ij']; rfl) gj]
      have := asc j _ _ ij' ij
      exact decide_eq_false (by omega)
  rw [word_row gj wl o sj]
  exact rowW_ok q1 q2 r1 r2
theorem mk_comp {C CC CB : Addr} {H : Hp} {E : XK} {Rr : Addr → VK} {ns is : List Int} {tss : List (List Int)} {t : Addr} {g r : V} {sg sr : Sh} {ss : List Sh} (T : TiesAt C H t ns) (ig : Is H g sg) (ir : Is H r sr) (sa : ShAll H (items sr) ss) (qg : (sg.isL || sg.isT) = true) (qr : (sr.isL || sr.isT) = true) (hg : items sg = is.map V.int) (S : ShRows ss tss)
    (tl : tss.length = is.length) (l60 : is.length ≤ 60) (asc : Asc is) (labs : ∀ n ∈ is, 0 ≤ n ∧ n ≤ 1000000000) (R : Rows ns.length tss) (k : ∀ (H' : Hp) (x : Addr), Same H H' → H x = none → CompAt C CC H' x ns is tss → Rr x .non H') :
    ∀ x dx, H x = none → H dx = none → dx ≠ x → spCompI C CC CB [.ref x, .ref t, g, r] (upd (upd H dx (.own x)) x (.ins CC dx [])) (Rr x) E := by
  intro x dx hx hd _
  have SS := made_same (H := H) (o := .own x) (u := .ins CC dx []) hx hd
  have dn : dueC ns.length sg sr ss = none := due_good qg qr hg sa.len S tl l60 asc labs R
  refine ⟨x, dx, t, ns, g, r, sg, sr, ss, rfl, upd_same, T.keep SS, ig.keep SS, fun y hy => ?_, ir.keep SS, sa.keep SS, ?_, fun i u e => ?_, fun _ H' js uss B e1 _ e3 e4 c => ?_⟩
  · rw [hg] at hy
    obtain ⟨n, _, rfl⟩ := List.mem_map.mp hy
    exact ⟨.sc (.int n), rfl, rfl⟩
  · rw [hg, List.length_map]
    omega
  · rw [dn] at e
    cases e
  · obtain rfl := map_int_inj (hg.symm.trans e1)
    have eq : uss = tss := by
      refine List.ext_getElem (by omega) fun j h1 h2 => ?_
      have sj := List.getElem?_eq_getElem (l := ss) (i := j) (by have := S.1; omega)
      have q1 := e4 j _ _ sj (List.getElem?_eq_getElem h1)
      have q2 := (S.2 j _ _ sj (List.getElem?_eq_getElem h2)).2
      exact map_int_inj (q1.symm.trans q2)
    rw [eq] at c
    exact k H' x (made_but hx hd B) hx c
/-! ### rows that are handed in: lists, tuples in a list -/
def shL (tss : List (List Int)) : List Sh := tss.map fun ts => .lst (ts.map V.int)
theorem shL_rows (tss : List (List Int)) : ShRows (shL tss) tss := by
  refine ⟨List.length_map _, fun j s ts e1 e2 => ?_⟩
  unfold shL at e1
  rw [List.getElem?_map, e2] at e1
  obtain rfl := Option.some.inj e1
  exact ⟨rfl, rfl⟩
theorem shT_rows (tss : List (List Int)) : ShRows (shT tss) tss := by
  refine ⟨List.length_map _, fun j s ts e1 e2 => ?_⟩
  unfold shT at e1
  rw [List.getElem?_map, e2] at e1
  obtain rfl := Option.some.inj e1
  exact ⟨rfl, rfl⟩
theorem shL_all {H : Hp} : ∀ {ps : List Addr} {tss : List (List Int)}, ps.length = tss.length → (∀ (j : Nat) (a : Addr) (ts : List Int), ps[j]? = some a → tss[j]? = some ts → H a = some (.lst (ts.map V.int))) → ShAll H (ps.map V.ref) (shL tss)
  | [], [], _, _ => .nil
  | [], _ :: _, h, _ => by cases h
  | _ :: _, [], h, _ => by cases h
  | p :: ps, t :: ts, h, f => .cons ⟨⟨p, rfl, f 0 p t rfl rfl⟩, ints_known t⟩ (shL_all (Nat.succ.inj h) fun j a b e1 e2 => f (j + 1) a b (by simpa using e1) (by simpa using e2))
theorem shT_all {H : Hp} : ∀ {ps : List Addr} {tss : List (List Int)}, ps.length = tss.length → (∀ (j : Nat) (a : Addr) (ts : List Int), ps[j]? = some a → tss[j]? = some ts → H a = some (.tup (ts.map V.int))) → ShAll H (ps.map V.ref) (shT tss)
  | [], [], _, _ => .nil
  | [], _ :: _, h, _ => by cases h
  | _ :: _, [], h, _ => by cases h
  | p :: ps, t :: ts, h, f => .cons ⟨⟨p, rfl, f 0 p t rfl rfl⟩, ints_known t⟩ (shT_all (Nat.succ.inj h) fun j a b e1 e2 => f (j + 1) a b (by simpa using e1) (by simpa using e2))
/-- a list of lists as data -/
def linesD (tss : List (List Int)) : List PyData := tss.map fun ts => .list (ts.map PyData.int)
theorem eqv_linesD : ∀ tss uss : List (List Int), PyData.eqvAll (linesD tss) (linesD uss) = decide (tss = uss)
  | [], [] => by simp [linesD, PyData.eqvAll]
  | [], u :: us => by simp [linesD, PyData.eqvAll]
  | t :: ts, [] => by simp [linesD, PyData.eqvAll]
  | t :: ts, u :: us => by
    have ih := eqv_linesD ts us
    have h1 := eqv_li t u
    show (PyData.eqv (.list (t.map PyData.int)) (.list (u.map PyData.int)) && PyData.eqvAll (linesD ts) (linesD us)) = _
    rw [h1, ih]
    by_cases h : t = u
    · by_cases h2 : ts = us
      · simp [h, h2]
      · simp [h, h2]
    · simp [h]
theorem lay_linesD : ∀ tss : List (List Int), PyData.canLayAll0 (linesD tss) = true ∧ PyData.depthAll (linesD tss) ≤ 2
  | [] => by simp [linesD, PyData.canLayAll0, PyData.depthAll]
  | t :: ts => by
    obtain ⟨a, b⟩ := lay_linesD ts
    have h1 := ints_lay t
    have h2 := ints_depth t
    refine ⟨?_, ?_⟩
    · show (PyData.canLay0 (.list (t.map PyData.int)) && PyData.canLayAll0 (linesD ts)) = true
      rw [a, Bool.and_true]
      simp only [PyData.canLay0]
      exact h1
    · show max (PyData.depth (.list (t.map PyData.int))) (PyData.depthAll (linesD ts)) ≤ 2
      simp only [PyData.depth]
      omega
theorem shaped_linesD (tss : List (List Int)) : SeqAt.shaped (.list (linesD tss)) = true := by
  obtain ⟨a, b⟩ := lay_linesD tss
  show (PyData.canLay0 (.list (linesD tss)) && decide (PyData.depth (.list (linesD tss)) ≤ 64)) = true
  rw [Bool.and_eq_true]
  refine ⟨by simp only [PyData.canLay0]; exact a, decide_eq_true ?_⟩
  simp only [PyData.depth]
  omega
theorem eqv_lines (tss uss : List (List Int)) : PyData.eqv (.list (linesD tss)) (.list (linesD uss)) = decide (tss = uss) := by
  rw [show PyData.eqv (.list (linesD tss)) (.list (linesD uss)) = PyData.eqvAll (linesD tss) (linesD uss) by simp only [PyData.eqv], eqv_linesD]
theorem dp_linesD {K : PySem.W.Frag} {H : Hp} : ∀ {ps : List Addr} {tss : List (List Int)}, ps.length = tss.length → (∀ (j : Nat) (a : Addr) (ts : List Int), ps[j]? = some a → tss[j]? = some ts → H a = some (.lst (ts.map V.int))) → DpAll K H (ps.map V.ref) (linesD tss)
  | [], [], _, _ => .nil
  | [], _ :: _, h, _ => by cases h
  | _ :: _, [], h, _ => by cases h
  | p :: ps, t :: ts, h, f => .cons (.lst (SqL.of (f 0 p t rfl rfl)) (dp_ints t)) (dp_linesD (Nat.succ.inj h) fun j a b e1 e2 => f (j + 1) a b (by simpa using e1) (by simpa using e2))
theorem LinesAt.dp {K : PySem.W.Frag} {H : Hp} {l : Addr} {ps : List Addr} {tss : List (List Int)} (L : LinesAt H l ps tss) : Dp K H (.ref l) (.list (linesD tss)) := .lst (SqL.of L.1) (dp_linesD L.2.1 fun j a ts e1 e2 => (L.2.2 j a ts e1 e2).2)
theorem LinesAt.sh {H : Hp} {l : Addr} {ps : List Addr} {tss : List (List Int)} (L : LinesAt H l ps tss) : ShAll H (ps.map V.ref) (shL tss) := shL_all L.2.1 fun j a ts e1 e2 => (L.2.2 j a ts e1 e2).2
end J

set_option Elab.async false
set_option linter.all false
set_option maxRecDepth 100000
set_option maxHeartbeats 8000000
namespace J
open PySem PySem.Spec PyProof.Rows L2
/-! ### tables -/
theorem cut_take {xs : List V} {k : Nat} (h : k ≤ xs.length) : cutV xs none (some ((k : Nat) : Int)) = xs.take k := by
  unfold cutV
  rw [HT.sIx_none, HT.sIx_nat, Nat.min_eq_left h]
  simp
def tabOf (f : Nat → Nat → Int) (n : Nat) : List (List Int) := (List.range n).map fun a => (List.range n).map (f a)
def rowsT (f : Nat → Nat → Int) (n : Nat) : List (List Int) := (List.range n).map fun a => (List.range a).map (f a)
theorem tabOf_len {f : Nat → Nat → Int} {n : Nat} : (tabOf f n).length = n := by simp [tabOf]
theorem rowsT_len {f : Nat → Nat → Int} {n : Nat} : (rowsT f n).length = n := by simp [rowsT]
theorem tabOf_at {f : Nat → Nat → Int} {n a : Nat} (h : a < n) : (tabOf f n)[a]? = some ((List.range n).map (f a)) := by
  unfold tabOf
  rw [List.getElem?_map, List.getElem?_range h]
  rfl
theorem rowsT_at {f : Nat → Nat → Int} {n a : Nat} (h : a < n) : (rowsT f n)[a]? = some ((List.range a).map (f a)) := by
  unfold rowsT
  rw [List.getElem?_map, List.getElem?_range h]
  rfl
theorem tabOf_congr {f g : Nat → Nat → Int} {n : Nat} (h : ∀ a b, a < n → b < n → f a b = g a b) : tabOf f n = tabOf g n := by
  unfold tabOf
  refine List.map_congr_left fun a ha => List.map_congr_left fun b hb => h a b (List.mem_range.mp ha) (List.mem_range.mp hb)
theorem rowsT_congr {f g : Nat → Nat → Int} {n : Nat} (h : ∀ a b, a < n → b < a → f a b = g a b) : rowsT f n = rowsT g n := by
  unfold rowsT
  refine List.map_congr_left fun a ha => List.map_congr_left fun b hb => h a b (List.mem_range.mp ha) (List.mem_range.mp hb)
theorem rowsT_rows {f : Nat → Nat → Int} {n m : Nat} (h : ∀ a b, a < n → b < a → 0 ≤ f a b ∧ f a b < (m : Nat)) : Rows m (rowsT f n) := by
  intro a ts e
  have ha : a < n := by
    have := (List.getElem?_eq_some_iff.mp e).1
    rwa [rowsT_len] at this
  rw [rowsT_at ha] at e
  obtain rfl := Option.some.inj e
  refine ⟨by rw [List.length_map, List.length_range], fun t ht => ?_⟩
  obtain ⟨b, hb, rfl⟩ := List.mem_map.mp ht
  exact h a b ha (List.mem_range.mp hb)
/-- a list of new lists, as it grows at D -/
structure Grow (H H' : Hp) (D : Addr) (qs : List Addr) (tss : List (List Int)) : Prop where
  S : Same H H'
  n : H D = none
  L : LinesAt H' D qs tss
  f : ∀ q ∈ qs, H q = none
theorem Grow.nil {H : Hp} {D : Addr} (hD : H D = none) : Grow H (upd H D (.lst [])) D [] [] := ⟨new_same hD, hD, ⟨upd_same, rfl, fun j a ts e => by simp at e⟩, fun q hq => nomatch hq⟩
theorem lines_snoc {H H2 : Hp} {D z : Addr} {qs : List Addr} {tss : List (List Int)} {ts : List Int} (L : LinesAt H D qs tss) (keep : ∀ (a : Addr) (us : List Int), a ∈ qs → H a = some (.lst (us.map V.int)) → H2 a = some (.lst (us.map V.int))) (ez : H2 z = some (.lst (ts.map V.int))) (zD : z ≠ D) : LinesAt (upd H2 D (.lst (qs.map V.ref ++ [.ref z]))) D (qs ++ [z]) (tss ++ [ts]) := by
  refine ⟨by rw [upd_same, List.map_append]; rfl, by rw [List.length_append, List.length_append, L.2.1]; rfl, fun i a us e1 e2 => ?_⟩
  rcases Nat.lt_or_ge i qs.length with q | q
  · rw [List.getElem?_append_left q] at e1
    rw [List.getElem?_append_left (by have := L.2.1; omega)] at e2
    obtain ⟨n1, e3⟩ := L.2.2 i a us e1 e2
    exact ⟨n1, by rw [upd_ne n1]; exact keep a us (List.mem_of_getElem? e1) e3⟩
  · have hi : i = qs.length := by
      have := (List.getElem?_eq_some_iff.mp e1).1
      rw [List.length_append] at this
      have l : [z].length = 1 := rfl
      omega
    subst hi
    rw [List.getElem?_append_right (Nat.le_refl _), Nat.sub_self] at e1
    rw [L.2.1, List.getElem?_append_right (Nat.le_refl _), Nat.sub_self] at e2
    obtain rfl : z = a := Option.some.inj e1
    obtain rfl : ts = us := Option.some.inj e2
    exact ⟨zD, by rw [upd_ne zD]; exact ez⟩
theorem Grow.snoc {H H1 H2 : Hp} {D z : Addr} {qs : List Addr} {tss : List (List Int)} {ts : List Int} (g : Grow H H1 D qs tss) (S : Same H1 H2) (hz : H1 z = none) (ez : H2 z = some (.lst (ts.map V.int))) : Grow H (upd H2 D (.lst (qs.map V.ref ++ [.ref z]))) D (qs ++ [z]) (tss ++ [ts]) := by
  have zD : z ≠ D := (ne_of_none g.L.1 hz).symm
  refine ⟨fun b o e => ?_, g.n, lines_snoc g.L (fun a us _ e => S _ _ e) ez zD, fun q hq => ?_⟩
  · rw [upd_ne (ne_of_none e g.n)]
    exact S _ _ (g.S _ _ e)
  · rcases List.mem_append.mp hq with hq | hq
    · exact g.f q hq
    · rw [List.mem_singleton] at hq
      rw [hq]
      exact g.S.free hz
theorem Grow.keep {H H' H2 : Hp} {D : Addr} {qs : List Addr} {tss : List (List Int)} (g : Grow H H' D qs tss) (S : Same H' H2) : Grow H H2 D qs tss := ⟨g.S.trans S, g.n, g.L.keep S, g.f⟩
abbrev s_Lrows : Stmt := top 51
theorem sc_Lrows : FnScope ["_law_table", "_law_j"] ["_law_table"] (defScope s_Lrows) := ⟨rfl, rfl, rfl, by decide +kernel, rfl, by decide +kernel, by decide +kernel⟩
abbrev s_Lcompany : Stmt := top 52
theorem sc_Lcompany : FnScope ["_law_backs_here", "_law_labels_here", "_law_table"] ["_law_backs_here", "_law_labels_here", "_law_table"] (defScope s_Lcompany) := ⟨rfl, rfl, rfl, by decide +kernel, rfl, by decide +kernel, by decide +kernel⟩
def spLRows : Sp := fun vs H Q _ => ∃ (T : Addr) (ps : List Addr) (f : Nat → Nat → Int) (n : Nat), vs = [.ref T] ∧ LinesAt H T ps (tabOf f n) ∧ n ≤ 100 ∧ ∀ (H' : Hp) (D : Addr) (qs : List Addr), Grow H H' D qs (rowsT f n) → Q (.ref D) H'
def spLComp (C CC : Addr) : Sp := fun vs H Q _ => ∃ (bk la T : Addr) (ps : List Addr) (f : Nat → Nat → Int) (ns is : List Int), vs = [.ref bk, .ref la, .ref T] ∧ H bk = some (.lst (ns.map V.int)) ∧ GoodB ns ∧ H la = some (.lst (is.map V.int)) ∧ Asc is ∧ (∀ n ∈ is, 0 ≤ n ∧ n ≤ 1000000000) ∧ is.length ≤ 60 ∧ LinesAt H T ps (tabOf f is.length) ∧
  (∀ a b, a < is.length → b < a → 0 ≤ f a b ∧ f a b < (ns.length : Nat)) ∧ ∀ (H' : Hp) (x : Addr), Same H H' → CompAt C CC H' x ns is (rowsT f is.length) → Q (.ref x) H'
section
variable {P : Program} {w : World} {K : PySem.W.Frag} {mg : Str → Option Value} {base : Heap}
theorem ok_Lrows {f : Addr} {fd : FuncData} (F : Fun K "_law_rows" "_law_rows" s_Lrows f fd) (nl : mg "len" = none) (nr : mg "range" = none) (nli : mg "list" = none) : FnOk P w K mg base CX0 1 f fd ["_law_table"] spLRows := by
  refine F.ok sc_Lrows (fun vs H Q E h => ?_) (fun cdv A outer s H vs Q E hr h => ?_)
  · obtain ⟨T, ps, f, n, rfl, _⟩ := h
    rfl
  · obtain ⟨T, ps, f, n, rfl, L, n100, k⟩ := h
    refine ⟨_, (pss_one 
  (ps_ret (pe_lc (own := [("_law_j", 1)]) (g := gName 1) (by rfl) sc_Lrows.nd (pi_range1 (by rfl) nr (pa_cons (pe_callB call_len_seq (by rfl) nl PySem.boot_len (pa_cons (pv 0) pa_nil)) pa_nil)) (blkOk_by (own := [("_law_j", 1)]) (N := ["_law_table", "_law_j"]) (sc := defScope s_Lrows) (by decide +kernel)) (fun _ _ _ _ _ => pg_name (i := 1) sc_Lrows.nd rfl (Or.inl rfl)) (fun _ _ _ _ _ => pts_nil) (fun _ _ _ _ _ => (pe_callTy (T := "list") (r := fun xs H Q => ∃ p ys, xs = [.ref p] ∧ (SqL K H p ys ∨ SqT K H p ys) ∧ ∀ l, H l = none → Q (.ref l) (upd H l (.lst ys))) call_list_of (by rfl) nli (by decide +kernel) (pa_cons (pe_slice (r := rSlL K) sl_list (pe_ix (r := rIxL K) ix_list (pv 0) (pv 1) (fun _ _ => rfl)) po_none (po_some (pv 1))) pa_nil)))))), ?_⟩
    have pl2 := L.2.1
    rw [tabOf_len] at pl2
    have lm : (ps.map V.ref).length = n := by rw [List.length_map, pl2]
    refine ⟨_, rfl, T, _, rfl, .inl (SqL.of L.1), ((ps.map V.ref).length : Nat), rfl, by omega, by omega, fun D hD => ?_⟩
    refine lc_range (lo := 0) (n := (ps.map V.ref).length) (fun i G => ∃ qs, qs.length = i ∧ Grow H G D qs ((rowsT f n).take i)) ⟨[], rfl, by rw [List.take_zero]; exact .nil hD⟩ ?_ ?_
    · rintro i G hi ⟨qs, ql, g⟩
      rw [lm] at hi
      have ep := List.getElem?_eq_getElem (l := ps) (i := i) (by omega)
      generalize ps[i]'(by omega) = pj at ep
      obtain ⟨_, row⟩ := L.2.2 i pj _ ep (tabOf_at hi)
      refine ⟨rfl, yesT ?_⟩
      have rl : (((List.range n).map (f i)).map V.int).length = n := by rw [List.length_map, List.length_map, List.length_range]
      refine ⟨_, rfl, _, rfl, T, _, _, _, rfl, rfl, SqL.of (g.S _ _ L.1), at_of (j := i) (v := .ref pj) (by omega) (by rw [List.getElem?_map, ep]; rfl), _, rfl, _, rfl, pj, _, rfl, SqL.of (g.S _ _ row), fun q hq => ?_⟩
      rw [Int.zero_add, cut_take (by rw [rl]; omega)]
      have S2 := new_same (o := .lst ((((List.range n).map (f i)).map V.int).take i)) hq
      have eq2 : (upd G q (.lst ((((List.range n).map (f i)).map V.int).take i))) q = some (.lst ((((List.range n).map (f i)).map V.int).take i)) := upd_same
      generalize upd G q (.lst ((((List.range n).map (f i)).map V.int).take i)) = G2 at S2 eq2
      refine ⟨q, _, rfl, .inl (SqL.of eq2), fun z hz => ?_⟩
      have cut : (((List.range n).map (f i)).map V.int).take i = ((List.range i).map (f i)).map V.int := by
        rw [← List.map_take, ← List.map_take, List.take_range, Nat.min_eq_left (by omega)]
      rw [cut]
      have eD := S2 _ _ g.L.1
      have S3 := new_same (o := .lst (((List.range i).map (f i)).map V.int)) hz
      refine ⟨_, S3 _ _ eD, small1000 (by rw [List.length_map]; omega), qs ++ [z], by rw [List.length_append, ql]; rfl, ?_⟩
      have tk : (rowsT f n).take (i + 1) = (rowsT f n).take i ++ [(List.range i).map (f i)] := by
        rw [List.take_add_one, rowsT_at hi]
        rfl
      rw [tk]
      exact g.snoc (S2.trans S3) (S2.free hz) upd_same
    · rintro G ⟨qs, ql, g⟩
      rw [lm, List.take_of_length_le (by rw [rowsT_len]; exact Nat.le_refl _)] at g
      exact k G D qs g
theorem ok_Lcompany {f fR fI fJ C CC CB CE : Addr} {fd fdR fdI fdJ : FuncData} (F : Fun K "_law_company" "_law_company" s_Lcompany f fd) (GR : Cal P w K mg base CX0 1 "_law_rows" fR fdR ["_law_table"] spLRows)
    (mT : mg "Ties" = some (.ref C)) (mC : mg "Company" = some (.ref CC)) (MI : Mk K C fI) (FI : FnOk P w K mg base (L2.CX P w) 4 fI fdI ["self", "backs"] (spTies C CB)) (bI : Binds K fdI ["self", "backs"] [])
    (MJ : Mk K CC fJ) (FJ : FnOk P w K mg base (L2.CX P w) 5 fJ fdJ ["self", "ties", "guests", "rows"] (spCompI C CC CE)) (bJ : Binds K fdJ ["self", "ties", "guests", "rows"] []) : FnOk P w K mg base CX0 7 f fd ["_law_backs_here", "_law_labels_here", "_law_table"] (spLComp C CC) := by
  refine F.ok sc_Lcompany (fun vs H Q E h => ?_) (fun cdv A outer s H vs Q E hr h => ?_)
  · obtain ⟨bk, la, T, ps, f, ns, is, rfl, _⟩ := h
    rfl
  · obtain ⟨bk, la, T, ps, f, ns, is, rfl, ebk, gb, ela, asc, labs, i60, L, fr, k⟩ := h
    have hr5 : Room 5 _ := hr.mono (by decide)
    refine ⟨_, (pss_one 
  (ps_ret (pe_make MJ FJ hr rfl mC bJ .nil passL (pa_cons (pe_make MI FI hr5 rfl mT bI .nil passL (pa_cons (pv 0) pa_nil)) (pa_cons (pv 1) (pa_cons (pcal GR hr pass0 (pa_cons (pv 2) pa_nil)) pa_nil)))))), ?_⟩
    refine ⟨_, rfl, mk_ties (s := .lst (ns.map V.int)) ⟨bk, rfl, ebk⟩ gb rfl rfl fun H1 t S1 nt TT => ⟨rfl, _, rfl, _, rfl, T, ps, f, is.length, rfl, L.keep S1, by omega, fun H2 D qs g => ?_⟩⟩
    have L2 := g.L
    refine mk_comp (sg := .lst (is.map V.int)) (sr := .lst (qs.map V.ref)) (ss := shL (rowsT f is.length)) (TT.keep g.S) ⟨la, rfl, g.S _ _ (S1 _ _ ela)⟩ ⟨D, rfl, L2.1⟩ L2.sh rfl rfl rfl (shL_rows _) rowsT_len i60 asc labs (rowsT_rows fr) fun H3 x S3 nx cC => ⟨rfl, k H3 x ((S1.trans g.S).trans S3) cC⟩
end
end J

set_option Elab.async false
set_option linter.all false
set_option maxRecDepth 100000
set_option maxHeartbeats 4000000
namespace J
open PySem PySem.Spec PyProof.Rows L2
/-! ### own errors without a field -/
section
variable {X : Cx} {C : Addr} {bmB : List Value} {B newId initId : String}
theorem pmk_own0 {x : Str} {p pos : Pos} (F : ExcBaseFacts B newId initId bmB) (q : PySem.W.excIn X.K C bmB newId = true) (gC : X.mg x = some (.ref C)) (kC : PySem.W.keepIn X.K (.ref C) = true) (r : Raises X (.ref C)) (hg : Gl X x)
    (hdb : (x == ("__debug__" : Str)) = false := by decide) : PMk X (.Call (.Name x p) [] [] pos) (fun _ H Q => Q (.ref C) none H) := by
  intro pins s σ H Q I h
  refine wpAny_Call_Name_kw (ld_glob I hg gC ?_ hdb)
  refine PySem.W.callWith_K0 I.kIn kC ?_
  show wpAny _ _ (call (.ref C) []) _ _ _
  obtain ⟨bm, N, nm, qn, bs, hdct, sn, sub, ab, col, dd, k0, k1, k2, k3, k5, mN, hC, hN, hni, T⟩ := exc_obj I.kIn q
  refine wpAny_call_exc_subT F T hC hN hni (fun h' e hm => ?_) (Nat.zero_le _)
  exact mk_of I hm r h (I.hok.gone hm.new)
end
/-- an error without a field: its class in the written part -/
structure Ex0 (K : PySem.W.Frag) (mg : Str → Option Value) (nm : Str) (C : Addr) : Prop where
  x : PySem.W.excIn K C [.type "ValueError", .type "Exception", .type "BaseException", .type "object"] "ValueError.__new__" = true
  m : mg nm = some (.ref C)
  k : PySem.W.keepIn K (.ref C) = true
  b : PySem.W.subIn K (.ref C) (.type "BaseException") = some true
  t : PySem.W.typeIn K (.ref C) = some (.type "type")
  te : PySem.W.exmOne K (.ref C) (.ref C) = some true
/-- isinstance of the caught error, an error without a field -/
def rIs0 (K : PySem.W.Frag) (C a : Addr) (cls : Value) (d : Option Addr) : List V → Hp → VK → Prop := fun xs H Q => ∃ (c : V) (cv : Value) (b : Bool), xs = [.ref a, c] ∧ cls = .ref C ∧ d = none ∧ ClsV c cv ∧ PySem.W.kitOne K (.ref C) cv = some b ∧ Q (.bl b) H
theorem call_is0 {X : Cx} {a C : Addr} {oe : Obj} {cls : Value} {d : Option Addr} {pn : List (Addr × Obj)} (E : ExcC X.K C) (hz : Zc cls d oe) (hf : ∃ vs, oe.data = .fields vs) : CallR (X.suite a ((a, oe) :: pn)) (.builtin "isinstance") (rIs0 X.K C a cls d) := by
  intro pins s σ H xs us Q I r h
  obtain ⟨c, cv, b, rfl, rfl, rfl, k, e, q⟩ := h
  exact call_isE E hz hf pins s σ H _ us Q I r ⟨c, cv, b, rfl, fun u ru => (k.eq ru).symm ▸ rfl, e, q⟩
/-! ### a op b by the text's own method -/
section
variable {X : Cx} {CX : CXT} {k : Nat} {f C : Addr} {fd : FuncData} {ps : List Str} {sp : Sp} {E : L2.St → XK} {pos : Pos} {a b : Expr} {ta tb : TE}
def tBinOwn (C : Addr) (sp : Sp) (E : L2.St → XK) (ta tb : TE) : TE := fun σ H Q => ta σ H fun x H1 => tb σ H1 fun y H2 => ∃ p q dx fs dy gs, x = .ref p ∧ y = .ref q ∧ H2 p = some (.ins C dx fs) ∧ H2 q = some (.ins C dy gs) ∧ sp [x, y] H2 (fun v H' => (∃ z, v = .ref z) ∧ Q v H') (E σ)
theorem pe_binOwn {op : Operator} (F : FnOk X.prog X.w X.K X.mg X.base CX k f fd ps sp) (hs : PySem.W.findIn X.K (.ref C) (PySem.dunder op.info.2) = some (some (.ref f))) (hf : PySem.W.isFn X.K (.ref f) = true) (hc : PySem.W.selfFirst X.K C = true) (hb : Binds X.K fd ps []) (hx : ∀ σ, PassesAt CX X σ (E σ)) (hr : Room k X.A)
    (ha : PE X a ta) (hbb : PE X b tb) : PE X (.BinOp a op b pos) (tBinOwn C sp E ta tb) := by
  refine ⟨fun pins s σ H Q I h => ?_⟩
  refine wpAny_BinOp (binT ha hbb I h fun v u s2 x y H2 I2 rx ry q => ?_)
  obtain ⟨p, p', dx, fs, dy, gs, rfl, rfl, h1, h2, q⟩ := q
  obtain rfl : v = Value.ref p := rx
  obtain rfl : u = Value.ref p' := ry
  obtain ⟨mA, J, _⟩ := ins_get I2.hok h1
  obtain ⟨od, J, _⟩ := J.look
  obtain ⟨mB, J', _⟩ := ins_get I2.hok h2
  obtain ⟨od', J', _⟩ := J'.look
  obtain ⟨m, hF⟩ := I2.fr
  refine PySem.W.binop_K hF I2.ok.mod.kin J J'.type hc hs hf ?_
  refine wpAny_mono (run_fnS (us := [.ref p, .ref p']) (vs := [.ref p, .ref p']) F hr hb (hx σ) I2 (.cons rfl (.cons rfl .nil)) q) ?_ fun _ _ z => z
  rintro w s' ⟨z, H', I', rz, ⟨c, rfl⟩, qz⟩
  obtain rfl : w = Value.ref c := rz
  exact ⟨V.ref c, H', I', rfl, qz⟩
end
abbrev s_check_backs : Stmt := top 15
theorem sc_check_backs : FnScope ["one", "other"] ["one", "other"] (defScope s_check_backs) := ⟨rfl, rfl, rfl, by decide +kernel, rfl, by decide +kernel, by decide +kernel⟩
def spCB (C CO : Addr) : Sp := fun vs H Q E => ∃ (x y : Addr) (ns ms : List Int), vs = [.ref x, .ref y] ∧ TiesAt C H x ns ∧ TiesAt C H y ms ∧ (ns ≠ ms → E (.ref CO) none H) ∧ (ns = ms → Q .non H)
section
variable {P : Program} {w : World} {K : PySem.W.Frag} {mg : Str → Option Value} {base : Heap}
theorem ok_check_backs {f C CO : Addr} {fd : FuncData} (F : Fun K "check_backs" "check_backs" s_check_backs f fd) (T : TiC K C) (O : Ex0 K mg "OtherTies" CO) : FnOk P w K mg base (L2.CX P w) 1 f fd ["one", "other"] (spCB C CO) := by
  refine F.okX sc_check_backs (fun vs H Q E h => ?_) (fun cdv A outer s H vs Q E hr h => ?_)
  · obtain ⟨x, y, ns, ms, rfl, _⟩ := h
    rfl
  · obtain ⟨x, y, ns, ms, rfl, ⟨dx, t, ha, ht⟩, ⟨dy, u, hb, hu⟩, k1, k2⟩ := h
    refine ⟨_, (pss_one 
  (ps_if (pt_cmpR (op_neD hr.units) (pe_fld (pv 0) rfl) (pe_fld (pv 1) rfl) (nomark _)) (pss_one 
    (ps_raise rfl (takes_of rfl rfl rfl rfl) (pmk_own0 PySem.F.excBase_ValueError O.x O.m O.k (raises_own O.b O.t) rfl))) pss_nil)), ?_⟩
    refine ⟨_, rfl, x, C, dx, _, _, rfl, ha, T.cl, T.nB, tf_backs _ _, _, rfl, y, C, dy, _, _, rfl, hb, T.cl, T.nB, tf_backs _ _, _, _, .tup (SqT.of ht) (dp_ints ns), .tup (SqT.of hu) (dp_ints ms), shaped_ti ns, shaped_ti ms, _, rfl, ?_⟩
    rw [eqv_ti]
    by_cases e : ns = ms
    · refine if_fa (by rw [decide_eq_true e]; rfl) (k2 e)
    · refine if_tr (by rw [decide_eq_false e]; rfl) (k1 e)
end
end J

set_option Elab.async false
set_option linter.all false
set_option maxRecDepth 100000
set_option maxHeartbeats 4000000
namespace J
open PySem PySem.Spec PyProof.Rows L2
/-! ### the first barred three of a company -/
def B3 (L : List (List Int)) (f : Nat → Nat → Int) (i j k : Nat) : Prop := [f i j, f j k, f i k] ∈ L
def NoB (L : List (List Int)) (f : Nat → Nat → Int) (n : Nat) : Prop := ∀ i j k, i < j → j < k → k < n → ¬ B3 L f i j k
structure FirstB (L : List (List Int)) (f : Nat → Nat → Int) (n i j k : Nat) : Prop where
  ij : i < j
  jk : j < k
  kn : k < n
  b : B3 L f i j k
  m : ∀ a b c, a < b → b < c → c < n → B3 L f a b c → i < a ∨ (i = a ∧ (j < b ∨ (j = b ∧ k ≤ c)))
/-- the ties of a table: numbers, each the back of the other -/
def CellsAt (ns : List Int) (f : Nat → Nat → Int) (n : Nat) : Prop := ∀ a b, a < n → b < n → a ≠ b → InT ns (f a b) ∧ f b a = bk ns (f a b)
def TabF (H : Hp) (z : Addr) (f : Nat → Nat → Int) (n : Nat) : Prop := ∃ us : List Addr, H z = some (.tup (us.map V.ref)) ∧ us.length = n ∧ ∀ (a : Nat) (u : Addr), us[a]? = some u → ∃ xs : List V, H u = some (.tup xs) ∧ ∀ b, b < n → a ≠ b → xs[b]? = some (.int (f a b))
theorem TabF.at_ {H : Hp} {z : Addr} {f : Nat → Nat → Int} {n a : Nat} (h : TabF H z f n) (ha : a < n) : ∃ (us : List Addr) (u : Addr) (xs : List V), H z = some (.tup (us.map V.ref)) ∧ (us.map V.ref)[a]? = some (.ref u) ∧ H u = some (.tup xs) ∧ ∀ b, b < n → a ≠ b → xs[b]? = some (.int (f a b)) := by
  obtain ⟨us, e, l, g⟩ := h
  have eu := List.getElem?_eq_getElem (l := us) (i := a) (by omega)
  obtain ⟨xs, e2, g2⟩ := g a _ eu
  exact ⟨us, _, xs, e, ref_at eu, e2, g2⟩
abbrev s_first_barred : Stmt := top 34
theorem sc_first_barred : FnScope ["bars", "table", "count", "i", "j", "barred", "k"] ["bars", "table"] (defScope s_first_barred) := ⟨rfl, rfl, rfl, by decide +kernel, rfl, by decide +kernel, by decide +kernel⟩
def spFB : Sp := fun vs H Q _ => ∃ (r t : Addr) (ns : List Int) (L : List (List Int)) (f : Nat → Nat → Int) (n : Nat), vs = [.ref r, .ref t] ∧ TabAt ns.length L H r ∧ TabF H t f n ∧ n ≤ 60 ∧ CellsAt ns f n ∧ (NoB L f n → Q .non H) ∧
  ∀ (i j k : Nat) (z : Addr), FirstB L f n i j k → H z = none → Q (.ref z) (upd H z (.tup [.int (i : Nat), .int (j : Nat), .int (k : Nat)]))
theorem ixT {K : PySem.W.Frag} {H : Hp} {p : Addr} {xs : List V} {z : Int} {j : Nat} {v : V} {Q : VK} (h : H p = some (.tup xs)) (e : z = (j : Nat)) (g : xs[j]? = some v) (q : Q v H) : rIxT K (.ref p) (.int z) H Q := ⟨p, xs, z, v, rfl, rfl, SqT.of h, at_of e g, q⟩
theorem in_nat {ns : List Int} {t : Int} (h : InT ns t) : t = ((t.toNat : Nat) : Int) ∧ t.toNat < ns.length := by
  obtain ⟨h1, h2⟩ := h
  omega
section
variable {P : Program} {w : World} {K : PySem.W.Frag} {mg : Str → Option Value} {base : Heap}
theorem ok_first_barred {f : Addr} {fd : FuncData} (F : Fun K "_first_barred" "_first_barred" s_first_barred f fd) (nl : mg "len" = none) (nr : mg "range" = none) : FnOk P w K mg base CX0 1 f fd ["bars", "table"] spFB := by
  refine F.ok sc_first_barred (fun vs H Q E h => ?_) (fun cdv A outer s H vs Q E hr h => ?_)
  · obtain ⟨r, t, ns, L, f, n, rfl, _⟩ := h
    rfl
  · obtain ⟨r, t, ns, L, f, n, rfl, hT, hF, n60, ce, k1, k2⟩ := h
    refine ⟨_, (pss_cons 
  (ps_set (i := 2) sc_first_barred.nd rfl (Or.inl rfl) (pe_callB call_len_seq (by rfl) nl PySem.boot_len (pa_cons (pv 1) pa_nil))) (pss_cons 
  (ps_for PassesOwn.never rfl (pi_range1 (by rfl) nr (pa_cons (pv 2) pa_nil)) (pg_name (i := 3) sc_first_barred.nd rfl (Or.inl rfl)) (pss_one 
    (ps_for PassesOwn.never rfl (pi_range2 (by rfl) nr (pa_cons (pe_op op_add (pv 3) pe_int) (pa_cons (pv 2) pa_nil))) (pg_name (i := 4) sc_first_barred.nd rfl (Or.inl rfl)) (pss_cons 
      (ps_set (i := 5) sc_first_barred.nd rfl (Or.inl rfl) (pe_ix ix_tup (pv 0) (pe_ix ix_tup (pe_ix ix_tup (pv 1) (pv 3) (fun _ _ => rfl)) (pv 4) (fun _ _ => rfl)) (fun _ _ => rfl))) (pss_one 
      (ps_for PassesOwn.never rfl (pi_range2 (by rfl) nr (pa_cons (pe_op op_add (pv 4) pe_int) (pa_cons (pv 2) pa_nil))) (pg_name (i := 6) sc_first_barred.nd rfl (Or.inl rfl)) (pss_one 
        (ps_if (pt_val (pe_ix ix_tup (pe_ix ix_tup (pv 5) (pe_ix ix_tup (pe_ix ix_tup (pv 1) (pv 4) (fun _ _ => rfl)) (pv 6) (fun _ _ => rfl)) (fun _ _ => rfl)) (pe_ix ix_tup (pe_ix ix_tup (pv 1) (pv 3) (fun _ _ => rfl)) (pv 6) (fun _ _ => rfl)) (fun _ _ => rfl))) (pss_one 
          (ps_ret (pe_tup (pa_cons (pv 3) (pa_cons (pv 4) (pa_cons (pv 6) pa_nil)))))) pss_nil)))))))) (pss_one 
  (ps_ret pe_non)))), ?_⟩
    obtain ⟨H0, eH⟩ : ∃ H0, H0 = H := ⟨_, rfl⟩
    subst eH
    obtain ⟨us0, eus, lus, _⟩ := id hF
    have lm : (us0.map V.ref).length = n := by rw [List.length_map, lus]
    refine ⟨_, rfl, t, _, rfl, .inr (SqT.of eus), ?_⟩
    rw [lm]
    refine ⟨_, rfl, (n : Nat), rfl, by omega, by omega, for_range (lo := 0) (n := n) (fun i σ H' => H0 = H' ∧ (∃ v3 v4 v5 v6 : Option V, σ = [some (.ref r), some (.ref t), some (.int (n : Nat)), v3, v4, v5, v6]) ∧ ∀ a b c, a < i → a < b → b < c → c < n → ¬ B3 L f a b c)
      ⟨rfl, ⟨none, none, none, none, rfl⟩, fun a b c z => by omega⟩ ?_ ?_⟩
    · rintro i σ H' hi ⟨rfl, ⟨v3, v4, v5, v6, rfl⟩, no1⟩
      obtain ⟨us, ui, xi, e1, e2, e3, e4⟩ := hF.at_ hi
      refine ⟨_, rfl, _, _, rfl, rfl, _, rfl, _, _, rfl, ⟨by omega, by omega, by omega, by omega⟩, for_range (lo := 0 + (i : Nat) + 1) (n := (((n : Nat) : Int) - (0 + (i : Nat) + 1)).toNat) (fun d σ H' => H0 = H' ∧ (∃ v4 v5 v6 : Option V, σ = [some (.ref r), some (.ref t), some (.int (n : Nat)), some (.int (0 + (i : Nat))), v4, v5, v6]) ∧ ∀ a b c, (a < i ∨ (a = i ∧ b < i + 1 + d)) → a < b → b < c → c < n → ¬ B3 L f a b c)
        ⟨rfl, ⟨_, _, _, rfl⟩, fun a b c z h1 h2 h3 => no1 a b c (by omega) h1 h2 h3⟩ ?_ ?_⟩
      · rintro d σ H' hd ⟨rfl, ⟨v4, v5, v6, rfl⟩, no2⟩
        obtain ⟨j, ej⟩ : ∃ j : Nat, j = i + 1 + d := ⟨_, rfl⟩
        have hj : j < n := by omega
        obtain ⟨us', uj, xj, g1, g2, g3, g4⟩ := hF.at_ hj
        obtain ⟨cij, _⟩ := ce i j hi hj (by omega)
        obtain ⟨pe, pl⟩ := in_nat cij
        obtain ⟨bs, hbs, lbs, gbs⟩ := id hT
        have ebp := List.getElem?_eq_getElem (l := bs) (i := (f i j).toNat) (by omega)
        obtain ⟨qs, hqs, lqs, gqs⟩ := gbs _ _ ebp
        refine ⟨_, rfl, _, rfl, _, rfl, ixT e1 (j := i) (by omega) e2 ?_⟩
        refine ⟨_, rfl, ixT e3 (j := j) (by omega) (e4 j hj (by omega)) (ixT hbs (j := (f i j).toNat) pe (ref_at ebp) ?_)⟩
        refine ⟨_, rfl, _, _, rfl, rfl, _, rfl, _, _, rfl, ⟨by omega, by omega, by omega, by omega⟩, for_range (lo := 0 + (i : Nat) + 1 + (d : Nat) + 1) (n := (((n : Nat) : Int) - (0 + (i : Nat) + 1 + (d : Nat) + 1)).toNat) (fun e σ H' => H0 = H' ∧ (∃ v6 : Option V, σ = [some (.ref r), some (.ref t), some (.int (n : Nat)), some (.int (0 + (i : Nat))), some (.int (0 + (i : Nat) + 1 + (d : Nat))), some (.ref (bs[(f i j).toNat]'(by omega))), v6]) ∧ ∀ c, j < c → c < j + 1 + e → c < n → ¬ B3 L f i j c)
          ⟨rfl, ⟨_, rfl⟩, fun c h1 h2 => by omega⟩ ?_ ?_⟩
        · rintro e σ H' he ⟨rfl, ⟨v6, rfl⟩, no3⟩
          obtain ⟨k, ek⟩ : ∃ k : Nat, k = j + 1 + e := ⟨_, rfl⟩
          have hk : k < n := by omega
          obtain ⟨cjk, _⟩ := ce j k hj hk (by omega)
          obtain ⟨cik, _⟩ := ce i k hi hk (by omega)
          obtain ⟨qe, ql⟩ := in_nat cjk
          obtain ⟨re, rl⟩ := in_nat cik
          have eq := List.getElem?_eq_getElem (l := qs) (i := (f j k).toNat) (by omega)
          have e6 := gqs _ _ eq
          refine ⟨_, rfl, _, rfl, _, rfl, ixT g1 (j := j) (by omega) g2 ?_⟩
          refine ⟨_, rfl, ixT g3 (j := k) (by omega) (g4 k hk (by omega)) (ixT hqs (j := (f j k).toNat) qe (ref_at eq) ?_)⟩
          refine ⟨_, rfl, _, rfl, ixT e1 (j := i) (by omega) e2 ?_⟩
          refine ⟨_, rfl, ixT e3 (j := k) (by omega) (e4 k hk (by omega)) (ixT e6 (j := (f i k).toNat) re (rowB_at rl) ?_)⟩
          have eb : ([(((f i j).toNat : Nat) : Int), (((f j k).toNat : Nat) : Int), (((f i k).toNat : Nat) : Int)] ∈ L) ↔ B3 L f i j k := by
            unfold B3
            rw [← pe, ← qe, ← re]
          refine ⟨_, rfl, ?_⟩
          by_cases c : B3 L f i j k
          · refine if_tr (decide_eq_true (eb.mpr c)) ⟨_, rfl, _, rfl, _, rfl, (by show 3 ≤ sizeLine; decide), fun z hz => ?_⟩
            have q := k2 i j k z ⟨by omega, by omega, hk, c, fun a b c' h1 h2 h3 hb => ?_⟩ hz
            · rw [show ((i : Nat) : Int) = 0 + (i : Nat) by omega, show ((j : Nat) : Int) = 0 + (i : Nat) + 1 + (d : Nat) by omega, show ((k : Nat) : Int) = 0 + (i : Nat) + 1 + (d : Nat) + 1 + (e : Nat) by omega] at q
              exact q
            · rcases Nat.lt_trichotomy i a with x | x | x
              · exact .inl x
              · refine .inr ⟨x, ?_⟩
                subst x
                rcases Nat.lt_trichotomy j b with y | y | y
                · exact .inl y
                · refine .inr ⟨y, ?_⟩
                  subst y
                  rcases Nat.lt_or_ge c' k with v | v
                  · exact absurd hb (no3 c' h2 (by omega) h3)
                  · exact v
                · exact absurd hb (no2 i b c' (.inr ⟨rfl, by omega⟩) h1 h2 h3)
              · exact absurd hb (no2 a b c' (.inl x) h1 h2 h3)
          · refine if_fa (decide_eq_false fun z => c (eb.mp z)) ⟨rfl, ⟨_, rfl⟩, fun c' h1 h2 h3 => ?_⟩
            rcases Nat.lt_or_ge c' k with v | v
            · exact no3 c' h1 (by omega) h3
            · obtain rfl : c' = k := by omega
              exact c
        · rintro σ H' ⟨rfl, ⟨v6, rfl⟩, no3⟩
          refine ⟨rfl, ⟨_, _, _, rfl⟩, fun a b c z h1 h2 h3 => ?_⟩
          by_cases w : a = i ∧ b = j
          · obtain ⟨rfl, rfl⟩ := w
            exact no3 c h2 (by omega) h3
          · exact no2 a b c (by omega) h1 h2 h3
      · rintro σ H' ⟨rfl, ⟨v4, v5, v6, rfl⟩, no2⟩
        exact ⟨rfl, ⟨_, _, _, _, rfl⟩, fun a b c z h1 h2 h3 => no2 a b c (by omega) h1 h2 h3⟩
    · rintro σ H' ⟨rfl, ⟨v3, v4, v5, v6, rfl⟩, no1⟩
      exact k1 fun a b c h1 h2 h3 => no1 a b c (by omega) h1 h2 h3
end
end J

set_option Elab.async false
set_option linter.all false
set_option maxRecDepth 100000
set_option maxHeartbeats 4000000
namespace J
open PySem PySem.Spec PyProof.Rows L2
/-! ### Book.company_fault, Book.lets -/
/-- f tells the ties of the company with these rows -/
def CellF (ns : List Int) (tss : List (List Int)) (f : Nat → Nat → Int) (n : Nat) : Prop := ∀ a b, a < n → b < n → a ≠ b → cell ns tss a b = .int (f a b)
theorem TableAt.tab {H : Hp} {z : Addr} {ns : List Int} {tss : List (List Int)} {f : Nat → Nat → Int} {n : Nat} (h : TableAt H z ns tss) (l : tss.length = n) (c : CellF ns tss f n) : TabF H z f n := by
  obtain ⟨us, e, ul, g⟩ := h
  refine ⟨us, e, by omega, fun a u ea => ?_⟩
  obtain ⟨xs, e2, _, g2⟩ := g a u ea
  have ha := (List.getElem?_eq_some_iff.mp ea).1
  refine ⟨xs, e2, fun b hb ne => ?_⟩
  rw [g2 b (by omega), c a b (by omega) hb ne]
abbrev s_company_fault : Stmt := inClass (top 29) 8
theorem sc_company_fault : FnScope ["self", "company", "places", "place"] ["self", "company"] (defScope s_company_fault) := ⟨rfl, rfl, rfl, by decide +kernel, rfl, by decide +kernel, by decide +kernel⟩
abbrev s_lets : Stmt := inClass (top 29) 9
theorem sc_lets : FnScope ["self", "company"] ["self", "company"] (defScope s_lets) := ⟨rfl, rfl, rfl, by decide +kernel, rfl, by decide +kernel, by decide +kernel⟩
def spCFa (C CC CB CO : Addr) : Sp := fun vs H Q E => ∃ (x c : Addr) (ns ms is : List Int) (L tss : List (List Int)) (f : Nat → Nat → Int), vs = [.ref x, .ref c] ∧ BookAt C CB H x ns L ∧ CompAt C CC H c ms is tss ∧ (ns ≠ ms → E (.ref CO) none H) ∧
  (ns = ms → CellF ns tss f is.length ∧ CellsAt ns f is.length ∧ (NoB L f is.length → Q .non H) ∧ ∀ (i j k : Nat) (a b d : Int) (H' : Hp) (z : Addr), FirstB L f is.length i j k → Same H H' → is[i]? = some a → is[j]? = some b → is[k]? = some d → H' z = some (.tup [.int a, .int b, .int d]) → H z = none → Q (.ref z) H')
def spLets (C CC CB CO : Addr) : Sp := fun vs H Q E => ∃ (x c : Addr) (ns ms is : List Int) (L tss : List (List Int)) (f : Nat → Nat → Int), vs = [.ref x, .ref c] ∧ BookAt C CB H x ns L ∧ CompAt C CC H c ms is tss ∧ (ns ≠ ms → E (.ref CO) none H) ∧
  (ns = ms → CellF ns tss f is.length ∧ CellsAt ns f is.length ∧ ∀ (b : Bool) (H' : Hp), (b = true ↔ NoB L f is.length) → Same H H' → Q (.bl b) H')
section
variable {P : Program} {w : World} {K : PySem.W.Frag} {mg : Str → Option Value} {base : Heap}
theorem ok_company_fault {fa C CC CB CO fK fF : Addr} {fd fdK fdF : FuncData} (F : Fun K "company_fault" "Book.company_fault" s_company_fault fa fd) (T : TiC K C) (cb : BoC K CB) (cc : CoC K CC) (nt : mg "tuple" = none)
    (GK : Cal P w K mg base (L2.CX P w) 1 "check_backs" fK fdK ["one", "other"] (spCB C CO)) (GF : Cal P w K mg base CX0 1 "_first_barred" fF fdF ["bars", "table"] spFB) : FnOk P w K mg base (L2.CX P w) 2 fa fd ["self", "company"] (spCFa C CC CB CO) := by
  refine F.okX sc_company_fault (fun vs H Q E h => ?_) (fun cdv A outer s H vs Q E hr h => ?_)
  · obtain ⟨x, c, ns, ms, is, L, tss, f, rfl, _⟩ := h
    rfl
  · obtain ⟨x, c, ns, ms, is, L, tss, f, rfl, ⟨dx, t, b, l, r, hx, hT, hb, hl, hR⟩, ⟨dc, tc, g, rr, tb, p, ps, kvs, hc, hTc, hg, hrr, htb, hp, vK, asc, tl, i60, labs⟩, k1, k2⟩ := h
    refine ⟨_, (pss_cons 
  (ps_expr (pcal GK hr (passes_call (takes_of rfl rfl rfl rfl) (fun _ _ _ _ h => h)) (pa_cons (pe_fld (pv 0) rfl) (pa_cons (pe_fld (pv 1) rfl) pa_nil)))) (pss_cons 
  (ps_set (i := 2) sc_company_fault.nd rfl (Or.inl rfl) (pcal GF hr pass0 (pa_cons (pe_fld (pv 0) rfl) (pa_cons (pe_fld (pv 1) rfl) pa_nil)))) (pss_cons 
  (ps_if (pt_cmpR op_isN (pv 2) pe_non (nomark _)) (pss_one 
    (ps_ret pe_non)) pss_nil) (pss_one 
  (ps_ret (pe_callTy (T := "tuple") (r := rTup K) call_tuple_of (by rfl) nt (by decide +kernel) (pa_cons (pe_lc (own := [("place", 3)]) (g := gName 3) (by rfl) sc_company_fault.nd (pi_tup (pv 2)) (blkOk_by (own := [("place", 3)]) (N := ["self", "company", "places", "place"]) (sc := defScope s_company_fault) (by decide +kernel)) (fun _ _ _ _ _ => pg_name (i := 3) sc_company_fault.nd rfl (Or.inl rfl)) (fun _ _ _ _ _ => pts_nil) (fun _ _ _ _ _ => (pe_ix (r := rIxT K) ix_tup (show PE _ _ (tFld K (tVar 1) "guests") from pe_fld (pv 1) rfl) (pv 3) (fun _ _ => rfl)))) pa_nil))))))), ?_⟩
    refine ⟨_, rfl, x, CB, dx, _, _, rfl, hx, cb.cl, cb.nT, bf_ties _ _ _ _, _, rfl, c, CC, dc, _, _, rfl, hc, cc.cl, cc.nT, cf_ties _ _ _ _ _, t, tc, ns, ms, rfl, hT, hTc, k1, fun e => ?_⟩
    obtain ⟨cf, ca, k3, k4⟩ := k2 e
    subst e
    refine ⟨_, rfl, x, CB, dx, _, _, rfl, hx, cb.cl, cb.nR, bf_table _ _ _ _, _, rfl, c, CC, dc, _, _, rfl, hc, cc.cl, cc.nB, cf_table _ _ _ _ _, r, tb, ns, L, f, is.length, rfl, hR, htb.tab tl cf, i60, ca, fun nb => ?_, fun i j k z fb hz => ?_⟩
    · exact ⟨_, rfl, rfl, _, rfl, if_tr (decide_eq_true rfl) (k3 nb)⟩
    · have S := new_same (o := .tup [.int (i : Nat), .int (j : Nat), .int (k : Nat)]) hz
      have ez : (upd H z (.tup [.int (i : Nat), .int (j : Nat), .int (k : Nat)])) z = some (.tup [.int (i : Nat), .int (j : Nat), .int (k : Nat)]) := upd_same
      generalize upd H z (.tup [.int (i : Nat), .int (j : Nat), .int (k : Nat)]) = H1 at S ez
      have h1 := fb.ij
      have h2 := fb.jk
      have h3 := fb.kn
      refine ⟨_, rfl, rfl, _, rfl, if_fa (decide_eq_false (by intro z; cases z)) ⟨_, rfl, z, rfl, ⟨_, SqT.of ez⟩, fun D hD => ?_⟩⟩
      have at3 : ∀ (q : Nat) (v : V), ([.int (i : Nat), .int (j : Nat), .int (k : Nat)] : List V)[q]? = some v → ∃ n : Nat, v = .int (n : Nat) ∧ n < is.length := by
        intro q v hv
        rcases q with _ | _ | _ | q
        · exact ⟨i, (Option.some.inj hv).symm, by omega⟩
        · exact ⟨j, (Option.some.inj hv).symm, by omega⟩
        · exact ⟨k, (Option.some.inj hv).symm, by omega⟩
        · cases hv
      let lab : V → V := fun v => match v with
        | .int n => .int ((is[n.toNat]?).getD 0)
        | v => v
      refine lc_tup (K := K) (a := z) (xs := [.int (i : Nat), .int (j : Nat), .int (k : Nat)]) (fun q H2 => Same H1 H2 ∧ H1 D = none ∧ H2 D = some (.lst ((([.int (i : Nat), .int (j : Nat), .int (k : Nat)] : List V).take q).map lab))) ⟨new_same hD, hD, upd_same⟩ (fun q H2 _ ⟨S2, _⟩ => SqT.of (S2 _ _ ez)) ?_ ?_
      · rintro q v H2 hv ⟨S2, D0, eD⟩
        obtain ⟨n, rfl, hn⟩ := at3 q v hv
        have en := List.getElem?_eq_getElem (l := is) (i := n) hn
        generalize is[n] = m at en
        refine ⟨rfl, yesT ?_⟩
        refine ⟨_, rfl, c, CC, dc, _, _, rfl, S2 _ _ (S _ _ hc), cc.cl, cc.nG, cf_guests _ _ _ _ _, _, rfl, ixT (S2 _ _ (S _ _ hg)) (j := n) rfl (v := .int m) (by rw [List.getElem?_map, en]; rfl) ⟨_, eD, small1000 (by rw [List.length_map, List.length_take]; show min q 3 ≤ 1000; omega), fun o u eo => ?_, D0, ?_⟩⟩
        · rw [upd_ne (ne_of_none eo D0)]
          exact S2 _ _ eo
        · have el : lab (.int (n : Nat)) = .int m := by
            show V.int ((is[(n : Int).toNat]?).getD 0) = _
            rw [Int.toNat_natCast, en]
            rfl
          rw [upd_same, List.take_add_one, hv, List.map_append]
          show some (HO.lst (_ ++ [.int m])) = some (HO.lst (_ ++ [lab (.int (n : Nat))]))
          rw [el]
      · rintro H2 ⟨S2, D0, eD⟩
        have ei := List.getElem?_eq_getElem (l := is) (i := i) (by omega)
        have ej := List.getElem?_eq_getElem (l := is) (i := j) (by omega)
        have ek := List.getElem?_eq_getElem (l := is) (i := k) (by omega)
        have e3 : (([.int (i : Nat), .int (j : Nat), .int (k : Nat)] : List V).take ([.int (i : Nat), .int (j : Nat), .int (k : Nat)] : List V).length).map lab = [.int (is[i]'(by omega)), .int (is[j]'(by omega)), .int (is[k]'(by omega))] := by
          show [lab (.int (i : Nat)), lab (.int (j : Nat)), lab (.int (k : Nat))] = _
          have lb : ∀ {n : Nat} {m : Int}, is[n]? = some m → lab (.int (n : Nat)) = .int m := fun {n m} en => by
            show V.int ((is[(n : Int).toNat]?).getD 0) = _
            rw [Int.toNat_natCast, en]
            rfl
          rw [lb ei, lb ej, lb ek]
        rw [e3] at eD
        refine ⟨D, _, rfl, .inl ⟨SqL.of eD, fun y hy => ?_⟩⟩
        exact k4 i j k _ _ _ _ y fb (S.trans (S2.trans (new_same hy))) ei ej ek upd_same (S.free (S2.free hy))
theorem ok_lets {fa C CC CB CO fF : Addr} {fd fdF : FuncData} (F : Fun K "lets" "Book.lets" s_lets fa fd) (cb : BoC K CB) (GF : Mt P w K mg base (L2.CX P w) 2 CB "company_fault" fF fdF ["self", "company"] (spCFa C CC CB CO)) :
    FnOk P w K mg base (L2.CX P w) 3 fa fd ["self", "company"] (spLets C CC CB CO) := by
  refine F.okX sc_lets (fun vs H Q E h => ?_) (fun cdv A outer s H vs Q E hr h => ?_)
  · obtain ⟨x, c, ns, ms, is, L, tss, f, rfl, _⟩ := h
    rfl
  · obtain ⟨x, c, ns, ms, is, L, tss, f, rfl, hB, hC, k1, k2⟩ := h
    obtain ⟨dx, t, b, l, r, hx, _⟩ := id hB
    refine ⟨_, (pss_one 
  (ps_ret (pe_cmpR op_isN (pe_meth (pv 0) cb.cl GF.M GF.F hr GF.b .nil (passes_call (takes_of rfl rfl rfl rfl) (fun _ _ _ _ h => h)) (pa_cons (pv 1) pa_nil)) pe_non (nomark _)))), ?_⟩
    refine ⟨_, rfl, x, dx, _, rfl, hx, bf_no _ _ _ _ (by decide +kernel) (by decide +kernel) (by decide +kernel) (by decide +kernel), _, rfl, x, c, ns, ms, is, L, tss, f, rfl, hB, hC, k1, fun e => ?_⟩
    obtain ⟨cf, ca, k3⟩ := k2 e
    refine ⟨cf, ca, fun nb => ⟨rfl, k3 _ _ ⟨fun _ => nb, fun _ => rfl⟩ (Same.refl _)⟩, fun i j k a b d H' z fb S _ _ _ _ _ => ⟨rfl, k3 _ _ ⟨fun q => ?_, fun q => absurd fb.b (q i j k fb.ij fb.jk fb.kn)⟩ S⟩⟩
    exact absurd (of_decide_eq_true q) (by intro z; cases z)
end
end J

set_option Elab.async false
set_option linter.all false
set_option maxRecDepth 100000
set_option maxHeartbeats 4000000
namespace J
open PySem PySem.Spec PyProof.Rows L2
/-! ### books put together: the mathematics -/
/-- barred threes as a book holds them: all readings of each, in their order -/
structure Cl (ns : List Int) (L : List (List Int)) : Prop where
  o : (A3 ns.length ns.length).filter (inL L) = L
  c : ∀ t u, u ∈ A3 ns.length ns.length → inR ns t u = true → u ∈ L → t ∈ L
theorem Cl.sub {ns : List Int} {L : List (List Int)} (h : Cl ns L) : ∀ t ∈ L, t ∈ A3 ns.length ns.length := fun t ht => by
  rw [← h.o] at ht
  exact (List.mem_filter.mp ht).1
theorem Cl.len {ns : List Int} {L : List (List Int)} (h : Cl ns L) (g : GoodB ns) : L.length ≤ 64 := by
  rw [← h.o]
  exact Nat.le_trans (List.length_filter_le _ _) (A3_len _ g.hi)
theorem cl_brd {ns : List Int} {ts : List (List Int)} (g : GoodB ns) (ha : ∀ u ∈ ts, u ∈ A3 ns.length ns.length) : Cl ns (brd ns ts) := ⟨inL_brd, fun t u _ h hu => brd_in g ha h hu⟩
theorem cl_filter {ns : List Int} {p : List Int → Bool} (g : GoodB ns) (h : ∀ t u, u ∈ A3 ns.length ns.length → inR ns t u = true → p u = true → p t = true) : Cl ns ((A3 ns.length ns.length).filter p) :=
  ⟨filt_self, fun t u hu e q => List.mem_filter.mpr ⟨inR_A3 g hu e, h t u hu e (List.mem_filter.mp q).2⟩⟩
theorem Cl.two {ns : List Int} {L : List (List Int)} (h : Cl ns L) (g : GoodB ns) {t u : List Int} (hu : u ∈ A3 ns.length ns.length) (e : inR ns t u = true) : t ∈ L ↔ u ∈ L :=
  ⟨fun q => h.c u t (inR_A3 g hu e) (inR_swap g hu e) q, fun q => h.c t u hu e q⟩
theorem brd_same {ns : List Int} {us ts : List (List Int)} (h : ∀ u, u ∈ us ↔ u ∈ ts) : brd ns us = brd ns ts := by
  unfold brd
  refine List.filter_congr fun x _ => ?_
  rw [Bool.eq_iff_iff, List.any_eq_true, List.any_eq_true]
  exact ⟨fun ⟨u, a, b⟩ => ⟨u, (h u).mp a, b⟩, fun ⟨u, a, b⟩ => ⟨u, (h u).mpr a, b⟩⟩
def orL (ns : List Int) (L M : List (List Int)) : List (List Int) := (A3 ns.length ns.length).filter fun t => inL L t || inL M t
def andL (ns : List Int) (L M : List (List Int)) : List (List Int) := (A3 ns.length ns.length).filter fun t => inL L t && inL M t
def addL (ns : List Int) (L : List (List Int)) (c : List Int) : List (List Int) := (A3 ns.length ns.length).filter fun t => inL L t || inR ns t c
def butL (ns : List Int) (L : List (List Int)) (c : List Int) : List (List Int) := (A3 ns.length ns.length).filter fun t => inL L t && !inR ns t c
theorem inL_iff {L : List (List Int)} {t : List Int} : inL L t = true ↔ t ∈ L := decide_eq_true_iff
theorem or_cl {ns : List Int} {L M : List (List Int)} (g : GoodB ns) (a : Cl ns L) (b : Cl ns M) : ∀ t u, u ∈ A3 ns.length ns.length → inR ns t u = true → (inL L u || inL M u) = true → (inL L t || inL M t) = true := fun t u hu e h => by
  rw [Bool.or_eq_true, inL_iff, inL_iff] at h ⊢
  rwa [a.two g hu e, b.two g hu e]
theorem and_cl {ns : List Int} {L M : List (List Int)} (g : GoodB ns) (a : Cl ns L) (b : Cl ns M) : ∀ t u, u ∈ A3 ns.length ns.length → inR ns t u = true → (inL L u && inL M u) = true → (inL L t && inL M t) = true := fun t u hu e h => by
  rw [Bool.and_eq_true, inL_iff, inL_iff] at h ⊢
  rwa [a.two g hu e, b.two g hu e]
theorem inR_two {ns : List Int} {t u c : List Int} (g : GoodB ns) (hc : c ∈ A3 ns.length ns.length) (hu : u ∈ A3 ns.length ns.length) (e : inR ns t u = true) : inR ns t c = inR ns u c := by
  rw [Bool.eq_iff_iff]
  exact ⟨fun q => inR_trans g hc (inR_swap g hu e) q, fun q => inR_trans g hc e q⟩
theorem add_cl {ns : List Int} {L : List (List Int)} {c : List Int} (g : GoodB ns) (a : Cl ns L) (hc : c ∈ A3 ns.length ns.length) : ∀ t u, u ∈ A3 ns.length ns.length → inR ns t u = true → (inL L u || inR ns u c) = true → (inL L t || inR ns t c) = true := fun t u hu e h => by
  rw [Bool.or_eq_true, inL_iff] at h ⊢
  rwa [a.two g hu e, inR_two g hc hu e]
theorem but_cl {ns : List Int} {L : List (List Int)} {c : List Int} (g : GoodB ns) (a : Cl ns L) (hc : c ∈ A3 ns.length ns.length) : ∀ t u, u ∈ A3 ns.length ns.length → inR ns t u = true → (inL L u && !inR ns u c) = true → (inL L t && !inR ns t c) = true := fun t u hu e h => by
  rw [Bool.and_eq_true, inL_iff] at h ⊢
  rwa [a.two g hu e, inR_two g hc hu e]
theorem cl_or {ns : List Int} {L M : List (List Int)} (g : GoodB ns) (a : Cl ns L) (b : Cl ns M) : Cl ns (orL ns L M) := cl_filter g (or_cl g a b)
theorem cl_and {ns : List Int} {L M : List (List Int)} (g : GoodB ns) (a : Cl ns L) (b : Cl ns M) : Cl ns (andL ns L M) := cl_filter g (and_cl g a b)
theorem brd_cat {ns : List Int} {L M : List (List Int)} (g : GoodB ns) (a : Cl ns L) (b : Cl ns M) : brd ns (L ++ M) = orL ns L M := by
  rw [← show _ = orL ns L M from brd_closed g (or_cl g a b)]
  refine brd_same fun u => ?_
  rw [List.mem_append, List.mem_filter, Bool.or_eq_true, inL_iff, inL_iff]
  exact ⟨fun h => ⟨h.elim (a.sub u) (b.sub u), h⟩, fun h => h.2⟩
theorem brd_both {ns : List Int} {L M : List (List Int)} (g : GoodB ns) (a : Cl ns L) (b : Cl ns M) : brd ns (L.filter fun t => decide (t ∈ M)) = andL ns L M := by
  rw [← show _ = andL ns L M from brd_closed g (and_cl g a b)]
  refine brd_same fun u => ?_
  rw [List.mem_filter, List.mem_filter, Bool.and_eq_true, inL_iff, inL_iff]
  exact ⟨fun h => ⟨a.sub u h.1, h.1, h.2⟩, fun h => ⟨h.2.1, h.2.2⟩⟩
theorem brd_add {ns : List Int} {L : List (List Int)} {c : List Int} (g : GoodB ns) (a : Cl ns L) (hc : c ∈ A3 ns.length ns.length) : brd ns (L ++ [c]) = addL ns L c := by
  rw [← show _ = addL ns L c from brd_closed g (add_cl g a hc)]
  refine brd_eq g (fun u hu => ?_) (fun u hu => (List.mem_filter.mp hu).1) fun t ht => ?_
  · rcases List.mem_append.mp hu with q | q
    · exact a.sub u q
    · rw [List.mem_singleton.mp q]; exact hc
  · constructor
    · rintro ⟨u, hu, e⟩
      rcases List.mem_append.mp hu with q | q
      · exact ⟨u, List.mem_filter.mpr ⟨a.sub u q, by rw [Bool.or_eq_true, inL_iff]; exact .inl q⟩, e⟩
      · rw [List.mem_singleton.mp q] at e
        exact ⟨c, List.mem_filter.mpr ⟨hc, by rw [Bool.or_eq_true, inR_self hc]; exact .inr rfl⟩, e⟩
    · rintro ⟨u, hu, e⟩
      obtain ⟨h1, h2⟩ := List.mem_filter.mp hu
      rw [Bool.or_eq_true, inL_iff] at h2
      rcases h2 with q | q
      · exact ⟨u, List.mem_append_left _ q, e⟩
      · exact ⟨c, List.mem_append_right _ List.mem_cons_self, inR_trans g hc e q⟩
theorem brd_less {ns : List Int} {L R : List (List Int)} {p q r : Int} (g : GoodB ns) (a : Cl ns L) (hc : [p, q, r] ∈ A3 ns.length ns.length) (hR : RdL ns p q r R) : brd ns (L.filter fun t => !decide (t ∈ R)) = butL ns L [p, q, r] := by
  rw [← show _ = butL ns L [p, q, r] from brd_closed g (but_cl g a hc)]
  refine brd_same fun u => ?_
  rw [List.mem_filter, List.mem_filter, Bool.and_eq_true, inL_iff]
  have e : inR ns u [p, q, r] = decide (u ∈ R) := by
    show decide (u ∈ six ns p q r) = _
    rw [Bool.eq_iff_iff, decide_eq_true_iff, decide_eq_true_iff]
    exact (hR.2 u).symm
  rw [e]
  exact ⟨fun h => ⟨a.sub u h.1, h⟩, fun h => h.2⟩
/-- the least of each class that a closed test keeps tells what it keeps -/
theorem brd_cls {ns : List Int} {p : List Int → Bool} (g : GoodB ns) (h : ∀ t u, u ∈ A3 ns.length ns.length → inR ns t u = true → p u = true → p t = true) : brd ns (((A3 ns.length ns.length).filter (isL ns)).filter p) = (A3 ns.length ns.length).filter p := by
  rw [← brd_closed g h]
  refine brd_eq g (fun u hu => (List.mem_filter.mp (List.mem_filter.mp hu).1).1) (fun u hu => (List.mem_filter.mp hu).1) fun t ht => ?_
  constructor
  · rintro ⟨u, hu, e⟩
    obtain ⟨h1, h2⟩ := List.mem_filter.mp hu
    exact ⟨u, List.mem_filter.mpr ⟨(List.mem_filter.mp h1).1, h2⟩, e⟩
  · rintro ⟨u, hu, e⟩
    obtain ⟨h1, h2⟩ := List.mem_filter.mp hu
    obtain ⟨v, hv, l, e2⟩ := least_ex g h1
    exact ⟨v, List.mem_filter.mpr ⟨List.mem_filter.mpr ⟨hv, l⟩, h v u h1 e2 h2⟩, inR_trans g hv e (inR_swap g h1 e2)⟩
end J

set_option Elab.async false
set_option linter.all false
set_option maxRecDepth 100000
set_option maxHeartbeats 4000000
namespace J
open PySem PySem.Spec PyProof.Rows L2
/-! ### Book.__or__, __and__, with_barred, without_barred, is_within -/
def rCatN : R2 := fun x y H Q => ∃ a b xs ys, x = .ref a ∧ y = .ref b ∧ H a = some (.tup xs) ∧ H b = some (.tup ys) ∧ xs.length + ys.length ≤ 1000 ∧ ∀ H' z, Same H H' → H' z = some (.tup (xs ++ ys)) → Q (.ref z) H'
theorem op_catN {X : Cx} : OpR X (binaryOp .Add) rCatN := by
  intro pins s σ H x y v u Q I rx ry h
  obtain ⟨a, b, xs, ys, rfl, rfl, ha, hb, hl, q⟩ := h
  exact op_catA pins s σ H _ _ v u Q I rx ry ⟨a, b, xs, ys, rfl, rfl, SqT.of ha, SqT.of hb, Nat.le_of_lt (small1000 hl), fun e => q H b (Same.refl _) (by rw [e]; exact hb), fun _ e => q H a (Same.refl _) (by rw [e, List.append_nil]; exact ha), fun _ _ p hp => q _ p (new_same hp) upd_same⟩
theorem sh_app {H : Hp} : ∀ {xs ys : List V} {ss us : List Sh}, ShAll H xs ss → ShAll H ys us → ShAll H (xs ++ ys) (ss ++ us)
  | _, _, _, _, .nil, b => b
  | _, _, _, _, .cons r t, b => .cons r (sh_app t b)
abbrev s_Book_or : Stmt := inClass (top 29) 3
theorem sc_Book_or : FnScope ["self", "other"] ["self", "other"] (defScope s_Book_or) := ⟨rfl, rfl, rfl, by decide +kernel, rfl, by decide +kernel, by decide +kernel⟩
abbrev s_Book_and : Stmt := inClass (top 29) 4
theorem sc_Book_and : FnScope ["self", "other", "three"] ["self", "other"] (defScope s_Book_and) := ⟨rfl, rfl, rfl, by decide +kernel, rfl, by decide +kernel, by decide +kernel⟩
abbrev s_with_barred : Stmt := inClass (top 29) 15
theorem sc_with_barred : FnScope ["self", "three"] ["self", "three"] (defScope s_with_barred) := ⟨rfl, rfl, rfl, by decide +kernel, rfl, by decide +kernel, by decide +kernel⟩
abbrev s_without_barred : Stmt := inClass (top 29) 16
theorem sc_without_barred : FnScope ["self", "three"] ["self", "three"] (defScope s_without_barred) := ⟨rfl, rfl, rfl, by decide +kernel, rfl, by decide +kernel, by decide +kernel⟩
abbrev s_is_within : Stmt := top 36
theorem sc_is_within : FnScope ["one", "other", "three"] ["one", "other"] (defScope s_is_within) := ⟨rfl, rfl, rfl, by decide +kernel, rfl, by decide +kernel, by decide +kernel⟩
def spTwo (C CB CO : Addr) (op : List Int → List (List Int) → List (List Int) → List (List Int)) : Sp := fun vs H Q E => ∃ (x y : Addr) (ns ms : List Int) (L M : List (List Int)), vs = [.ref x, .ref y] ∧ BookAt C CB H x ns L ∧ BookAt C CB H y ms M ∧ (ns ≠ ms → E (.ref CO) none H) ∧
  (ns = ms → GoodB ns ∧ Cl ns L ∧ Cl ns M ∧ ∀ (H' : Hp) (z : Addr), Same H H' → H z = none → BookAt C CB H' z ns (op ns L M) → Q (.ref z) H')
def spWithin (C CB CO : Addr) : Sp := fun vs H Q E => ∃ (x y : Addr) (ns ms : List Int) (L M : List (List Int)), vs = [.ref x, .ref y] ∧ BookAt C CB H x ns L ∧ BookAt C CB H y ms M ∧ (ns ≠ ms → E (.ref CO) none H) ∧
  (ns = ms → M.length ≤ 64 ∧ ∀ (H' : Hp) (b : Bool), Same H H' → (b = true ↔ ∀ t ∈ M, t ∈ L) → Q (.bl b) H')
def spOne (C CB CT : Addr) (op : List Int → List (List Int) → List Int → List (List Int)) : Sp := fun vs H Q E => ∃ (x : Addr) (ns : List Int) (L : List (List Int)) (v : V) (s : Sh), vs = [.ref x, v] ∧ BookAt C CB H x ns L ∧ GoodB ns ∧ Cl ns L ∧ Is H v s ∧ Known H (items s) ∧ (threeB ns s = false → Tells H CT "three" v E) ∧
  (∀ p q r, items s = [.int p, .int q, .int r] → InT ns p → InT ns q → InT ns r → ∀ (H' : Hp) (z : Addr), Same H H' → H z = none → BookAt C CB H' z ns (op ns L [p, q, r]) → Q (.ref z) H')
section
variable {P : Program} {w : World} {K : PySem.W.Frag} {mg : Str → Option Value} {base : Heap}
theorem ok_Book_or {f C CB CO CE fK fI : Addr} {fd fdK fdI : FuncData} (F : Fun K "__or__" "Book.__or__" s_Book_or f fd) (c : BoC K CB) (mB : mg "Book" = some (.ref CB)) (GK : Cal P w K mg base (L2.CX P w) 1 "check_backs" fK fdK ["one", "other"] (spCB C CO))
    (MI : Mk K CB fI) (FI : FnOk P w K mg base (L2.CX P w) 6 fI fdI ["self", "ties", "barred"] (spBI K C CB CE)) (bI : Binds K fdI ["self", "ties", "barred"] []) : FnOk P w K mg base (L2.CX P w) 8 f fd ["self", "other"] (spTwo C CB CO orL) := by
  refine F.okX sc_Book_or (fun vs H Q E h => ?_) (fun cdv A outer s H vs Q E hr h => ?_)
  · obtain ⟨x, y, ns, ms, L, M, rfl, _⟩ := h
    rfl
  · obtain ⟨x, y, ns, ms, L, M, rfl, ⟨dx, t, b, l, r, hx, hT, hb, hl, hR⟩, ⟨dy, t', b', l', r', hy, hT', hb', hl', hR'⟩, k1, k2⟩ := h
    refine ⟨_, (pss_cons 
  (ps_expr (pcal GK hr (passes_call (takes_of rfl rfl rfl rfl) (fun _ _ _ _ h => h)) (pa_cons (pe_fld (pv 0) rfl) (pa_cons (pe_fld (pv 1) rfl) pa_nil)))) (pss_one 
  (ps_ret (pe_make MI FI hr rfl mB bI .nil (passes_call (takes_of rfl rfl rfl rfl) (fun _ _ _ _ h => h)) (pa_cons (pe_fld (pv 0) rfl) (pa_cons (pe_op op_catN (pe_fld (pv 0) rfl) (pe_fld (pv 1) rfl)) pa_nil)))))), ?_⟩
    refine ⟨_, rfl, x, CB, dx, _, _, rfl, hx, c.cl, c.nT, bf_ties _ _ _ _, _, rfl, y, CB, dy, _, _, rfl, hy, c.cl, c.nT, bf_ties _ _ _ _, t, t', ns, ms, rfl, hT, hT', k1, fun e => ?_⟩
    subst e
    obtain ⟨gb, cL, cM, k⟩ := k2 rfl
    obtain ⟨ps, e1, e2, e3⟩ := hb
    obtain ⟨qs, e1', e2', e3'⟩ := hb'
    have lL := cL.len gb
    have lM := cM.len gb
    refine ⟨_, rfl, x, CB, dx, _, _, rfl, hx, c.cl, c.nT, bf_ties _ _ _ _, _, rfl, x, CB, dx, _, _, rfl, hx, c.cl, c.nB, bf_barred _ _ _ _, _, rfl, y, CB, dy, _, _, rfl, hy, c.cl, c.nB, bf_barred _ _ _ _, b, b', _, _, rfl, rfl, e1, e1', by rw [List.length_map, List.length_map]; omega, fun H1 z S1 ez => ?_⟩
    refine mk_book (ArgB.good (s := .tup (ps.map V.ref ++ qs.map V.ref)) (ss := shT L ++ shT M) (hT.keep S1) gb ⟨z, rfl, ez⟩ rfl (sh_app (sh_tups e2 fun j a ts h1 h2 => S1 _ _ (e3 j a ts h1 h2)) (sh_tups e2' fun j a ts h1 h2 => S1 _ _ (e3' j a ts h1 h2))) (fun s' hs' => ?_) ?_)
    · rcases List.mem_append.mp hs' with q | q
      · obtain ⟨u, hu, rfl⟩ := List.mem_map.mp q
        exact sh_three (cL.sub u hu)
      · obtain ⟨u, hu, rfl⟩ := List.mem_map.mp q
        exact sh_three (cM.sub u hu)
    · intro H2 x2 S2 n2 Bk
      have et : trs (shT L ++ shT M) = L ++ M := by
        show List.map _ (shT L ++ shT M) = _
        rw [List.map_append]
        exact congr (congrArg _ (trs_shT L)) (trs_shT M)
      rw [et, brd_cat gb cL cM] at Bk
      exact ⟨rfl, k _ x2 (S1.trans S2) (same_free S1 n2) Bk⟩
theorem ok_Book_and {f C CB CO CE fK fI : Addr} {fd fdK fdI : FuncData} (F : Fun K "__and__" "Book.__and__" s_Book_and f fd) (c : BoC K CB) (mB : mg "Book" = some (.ref CB)) (GK : Cal P w K mg base (L2.CX P w) 1 "check_backs" fK fdK ["one", "other"] (spCB C CO))
    (MI : Mk K CB fI) (FI : FnOk P w K mg base (L2.CX P w) 6 fI fdI ["self", "ties", "barred"] (spBI K C CB CE)) (bI : Binds K fdI ["self", "ties", "barred"] []) : FnOk P w K mg base (L2.CX P w) 8 f fd ["self", "other"] (spTwo C CB CO andL) := by
  refine F.okX sc_Book_and (fun vs H Q E h => ?_) (fun cdv A outer s H vs Q E hr h => ?_)
  · obtain ⟨x, y, ns, ms, L, M, rfl, _⟩ := h
    rfl
  · obtain ⟨x, y, ns, ms, L, M, rfl, ⟨dx, t, b, l, r, hx, hT, hb, hl, hR⟩, ⟨dy, t', b', l', r', hy, hT', hb', hl', hR'⟩, k1, k2⟩ := h
    refine ⟨_, (pss_cons 
  (ps_expr (pcal GK hr (passes_call (takes_of rfl rfl rfl rfl) (fun _ _ _ _ h => h)) (pa_cons (pe_fld (pv 0) rfl) (pa_cons (pe_fld (pv 1) rfl) pa_nil)))) (pss_one 
  (ps_ret (pe_make MI FI hr rfl mB bI .nil (passes_call (takes_of rfl rfl rfl rfl) (fun _ _ _ _ h => h)) (pa_cons (pe_fld (pv 0) rfl) (pa_cons (pe_lc (own := [("three", 2)]) (g := gName 2) (by rfl) sc_Book_and.nd (pi_tup (pe_fld (pv 0) rfl)) (blkOk_by (own := [("three", 2)]) (N := ["self", "other", "three"]) (sc := defScope s_Book_and) (by decide +kernel)) (fun _ _ _ _ _ => pg_name (i := 2) sc_Book_and.nd rfl (Or.inl rfl)) (fun _ _ _ _ _ => pts_one (pt_cmpR (r := rInDT K) (op_inDT (units65 hr)) (pv 2) (show PE _ _ (tFld K (tVar 1) "barred") from pe_fld (pv 1) rfl) (by rfl))) (fun _ _ _ _ _ => (pv 2))) pa_nil)))))), ?_⟩
    refine ⟨_, rfl, x, CB, dx, _, _, rfl, hx, c.cl, c.nT, bf_ties _ _ _ _, _, rfl, y, CB, dy, _, _, rfl, hy, c.cl, c.nT, bf_ties _ _ _ _, t, t', ns, ms, rfl, hT, hT', k1, fun e => ?_⟩
    subst e
    obtain ⟨gb, cL, cM, k⟩ := k2 rfl
    obtain ⟨ps, e1, e2, e3⟩ := id hb
    have lL := cL.len gb
    refine ⟨_, rfl, x, CB, dx, _, _, rfl, hx, c.cl, c.nT, bf_ties _ _ _ _, _, rfl, x, CB, dx, _, _, rfl, hx, c.cl, c.nB, bf_barred _ _ _ _, b, rfl, ⟨_, SqT.of e1⟩, fun D hD => ?_⟩
    refine lc_tup (K := K) (a := b) (xs := ps.map V.ref) (fun i H2 => Gro H H2 D ((L.take i).filter fun t => decide (t ∈ M))) (Gro.nil hD) (fun i H2 _ G => SqT.of (G.S _ _ e1)) ?_ ?_
    · rintro i v H2 hv G
      rw [List.getElem?_map] at hv
      cases ea : ps[i]? with
      | none =>
        rw [ea] at hv
        cases hv
      | some z =>
        rw [ea] at hv
        obtain rfl : V.ref z = v := Option.some.inj hv
        have li := (List.getElem?_eq_some_iff.mp ea).1
        have el : L[i]? = some L[i] := List.getElem?_eq_getElem (by omega)
        generalize L[i] = u at el
        have hz := G.S _ _ (e3 i z u ea el)
        have tf := take_filter (p := fun t => decide (t ∈ M)) el
        refine ⟨rfl, _, rfl, _, rfl, y, CB, dy, _, _, rfl, G.S _ _ hy, c.cl, c.nB, bf_barred _ _ _ _, in_tups (hb'.keep G.S) hz ⟨_, rfl, ?_⟩⟩
        cases cc : (decide (u ∈ M)) with
        | true =>
          obtain ⟨acc, q1, q2, q3⟩ := G.app hz
          refine iteT ⟨_, rfl, acc, q1, ?_, ?_⟩
          · have := List.length_filter_le (fun t => decide (t ∈ M)) (L.take i)
            rw [List.length_take] at this
            rw [q2]
            exact small1000 (by omega)
          · rw [tf, if_pos cc]
            exact q3
        | false =>
          refine iteF ?_
          rw [tf, if_neg (by rw [cc]; decide), List.append_nil]
          exact G
    · rintro H2 G
      rw [List.length_map, e2, List.take_length] at G
      refine mk_book (LstsAt.arg G.lsts (hT.keep G.S) gb (fun u hu => cL.sub u (List.mem_filter.mp hu).1) ?_)
      intro H3 x3 S3 n3 Bk
      rw [brd_both gb cL cM] at Bk
      exact ⟨rfl, k _ x3 (G.S.trans S3) (same_free G.S n3) Bk⟩
theorem ok_with_barred {f C CB CT CE f3 fT fI : Addr} {fd fd3 fdT fdI : FuncData} (F : Fun K "with_barred" "Book.with_barred" s_with_barred f fd) (c : BoC K CB) (mB : mg "Book" = some (.ref CB)) (G3 : Cal P w K mg base CX0 3 "is_three" f3 fd3 ["ties", "thing"] (spThree C))
    (GT : Ex P w K mg base "NoThree" "three" CT fT fdT ["self", "three"]) (MI : Mk K CB fI) (FI : FnOk P w K mg base (L2.CX P w) 6 fI fdI ["self", "ties", "barred"] (spBI K C CB CE)) (bI : Binds K fdI ["self", "ties", "barred"] []) : FnOk P w K mg base (L2.CX P w) 8 f fd ["self", "three"] (spOne C CB CT addL) := by
  refine F.okX sc_with_barred (fun vs H Q E h => ?_) (fun cdv A outer s H vs Q E hr h => ?_)
  · obtain ⟨x, ns, L, v, s, rfl, _⟩ := h
    rfl
  · obtain ⟨x, ns, L, v, sh, rfl, ⟨dx, t, b, l, r, hx, hT, hb, hl, hR⟩, gb, cL, hv, kn, k1, k2⟩ := h
    refine ⟨_, (pss_cons 
  (ps_if (pt_not (pt_val (pcal G3 hr pass0 (pa_cons (pe_fld (pv 0) rfl) (pa_cons (pv 1) pa_nil))))) (pss_one 
    (ps_raise rfl (takes_of rfl rfl rfl rfl) (pmk_oex GT.o GT.i GT.t GT.F (hr.mono (by decide)) GT.b .nil pass0 rfl GT.m (pa_cons (pv 1) pa_nil)))) pss_nil) (pss_one 
  (ps_ret (pe_make MI FI hr rfl mB bI .nil (passes_call (takes_of rfl rfl rfl rfl) (fun _ _ _ _ h => h)) (pa_cons (pe_fld (pv 0) rfl) (pa_cons (pe_op op_catN (pe_fld (pv 0) rfl) (pe_tup (pa_cons (pv 1) pa_nil))) pa_nil)))))), ?_⟩
    obtain ⟨ps, e1, e2, e3⟩ := hb
    have lL := cL.len gb
    refine ⟨_, rfl, x, CB, dx, _, _, rfl, hx, c.cl, c.nT, bf_ties _ _ _ _, _, rfl, t, ns, v, sh, rfl, hT, hv, kn, fun H1 S1 => ⟨_, rfl, ?_⟩⟩
    cases e : threeB ns sh with
    | false => exact if_tr rfl ⟨_, rfl, mkO_of ((k1 e).mono S1)⟩
    | true =>
      obtain ⟨p, q, r3, ei, ip, iq, ir, sq⟩ := thr_sh e
      refine if_fa rfl ⟨_, rfl, x, CB, dx, _, _, rfl, S1 _ _ hx, c.cl, c.nT, bf_ties _ _ _ _, _, rfl, x, CB, dx, _, _, rfl, S1 _ _ hx, c.cl, c.nB, bf_barred _ _ _ _, _, rfl, (by show 1 ≤ sizeLine; decide), fun z1 hz1 => ?_⟩
      have S2 := new_same (o := .tup [v]) hz1
      have ez1 : (upd H1 z1 (.tup [v])) z1 = some (.tup [v]) := upd_same
      generalize upd H1 z1 (.tup [v]) = H2 at S2 ez1
      have S12 := S1.trans S2
      refine ⟨b, z1, _, _, rfl, rfl, S12 _ _ e1, ez1, by rw [List.length_map]; show _ + 1 ≤ 1000; omega, fun H3 z S3 ez => ?_⟩
      have S := S12.trans S3
      have eo : (items sh).map ofV = [p, q, r3] := by rw [ei]; rfl
      refine mk_book (ArgB.good (s := .tup (ps.map V.ref ++ [v])) (ss := shT L ++ [sh]) (hT.keep S) gb ⟨z, rfl, ez⟩ rfl (sh_app (sh_tups e2 fun j a ts h1 h2 => S _ _ (e3 j a ts h1 h2)) (.cons ⟨hv.keep S, kn.keep S⟩ .nil)) (fun s' hs' => ?_) ?_)
      · rcases List.mem_append.mp hs' with qq | qq
        · obtain ⟨u, hu, rfl⟩ := List.mem_map.mp qq
          exact sh_three (cL.sub u hu)
        · rw [List.mem_singleton.mp qq]
          exact e
      · intro H4 x4 S4 n4 Bk
        have et : trs (shT L ++ [sh]) = L ++ [[p, q, r3]] := by
          show List.map _ (shT L ++ [sh]) = _
          rw [List.map_append]
          exact congr (congrArg _ (trs_shT L)) (by show [(items sh).map ofV] = _; rw [eo])
        rw [et, brd_add gb cL (in_A3 ip iq ir)] at Bk
        exact ⟨rfl, k2 p q r3 ei ip iq ir _ x4 (S.trans S4) (same_free S n4) Bk⟩
theorem ok_without_barred {f C CB CT CE fB fR fI : Addr} {fd fdB fdR fdI : FuncData} (F : Fun K "without_barred" "Book.without_barred" s_without_barred f fd) (c : BoC K CB) (mB : mg "Book" = some (.ref CB)) (GB : Cal P w K mg base CX0 1 "_but" fB fdB ["threes", "others"] spBut)
    (GR : Cal P w K mg base (L2.CX P w) 4 "readings_of" fR fdR ["ties", "three"] (spReadings C CT)) (MI : Mk K CB fI) (FI : FnOk P w K mg base (L2.CX P w) 6 fI fdI ["self", "ties", "barred"] (spBI K C CB CE)) (bI : Binds K fdI ["self", "ties", "barred"] []) : FnOk P w K mg base (L2.CX P w) 8 f fd ["self", "three"] (spOne C CB CT butL) := by
  refine F.okX sc_without_barred (fun vs H Q E h => ?_) (fun cdv A outer s H vs Q E hr h => ?_)
  · obtain ⟨x, ns, L, v, s, rfl, _⟩ := h
    rfl
  · obtain ⟨x, ns, L, v, sh, rfl, ⟨dx, t, b, l, r, hx, hT, hb, hl, hR⟩, gb, cL, hv, kn, k1, k2⟩ := h
    refine ⟨_, (pss_one 
  (ps_ret (pe_make MI FI hr rfl mB bI .nil (passes_call (takes_of rfl rfl rfl rfl) (fun _ _ _ _ h => h)) (pa_cons (pe_fld (pv 0) rfl) (pa_cons (pcal GB hr pass0 (pa_cons (pe_fld (pv 0) rfl) (pa_cons (pcal GR hr (passes_call (takes_of rfl rfl rfl rfl) (fun _ _ _ _ h => h)) (pa_cons (pe_fld (pv 0) rfl) (pa_cons (pv 1) pa_nil))) pa_nil))) pa_nil))))), ?_⟩
    have lL := cL.len gb
    refine ⟨_, rfl, x, CB, dx, _, _, rfl, hx, c.cl, c.nT, bf_ties _ _ _ _, _, rfl, x, CB, dx, _, _, rfl, hx, c.cl, c.nB, bf_barred _ _ _ _, _, rfl, x, CB, dx, _, _, rfl, hx, c.cl, c.nT, bf_ties _ _ _ _, _, rfl, t, ns, v, sh, rfl, hT, gb, hv, kn, k1, fun p q r3 ei ip iq ir H1 z1 R S1 n1 T1 rd => ?_⟩
    refine ⟨b, z1, L, R, rfl, hb.keep S1, T1, lL, fun H2 z2 S2 n2 L2' => ?_⟩
    have S := S1.trans S2
    refine mk_book (LstsAt.arg L2' (hT.keep S) gb (fun u hu => cL.sub u (List.mem_filter.mp hu).1) ?_)
    intro H3 x3 S3 n3 Bk
    rw [brd_less gb cL (in_A3 ip iq ir) rd] at Bk
    exact ⟨rfl, k2 p q r3 ei ip iq ir _ x3 (S.trans S3) (same_free S n3) Bk⟩
theorem ok_is_within {f C CB CO fK : Addr} {fd fdK : FuncData} (F : Fun K "is_within" "is_within" s_is_within f fd) (c : BoC K CB) (na : mg "all" = none) (GK : Cal P w K mg base (L2.CX P w) 1 "check_backs" fK fdK ["one", "other"] (spCB C CO)) :
    FnOk P w K mg base (L2.CX P w) 2 f fd ["one", "other"] (spWithin C CB CO) := by
  refine F.okX sc_is_within (fun vs H Q E h => ?_) (fun cdv A outer s H vs Q E hr h => ?_)
  · obtain ⟨x, y, ns, ms, L, M, rfl, _⟩ := h
    rfl
  · obtain ⟨x, y, ns, ms, L, M, rfl, ⟨dx, t, b, l, r, hx, hT, hb, hl, hR⟩, ⟨dy, t', b', l', r', hy, hT', hb', hl', hR'⟩, k1, k2⟩ := h
    refine ⟨_, (pss_cons 
  (ps_expr (pcal GK hr (passes_call (takes_of rfl rfl rfl rfl) (fun _ _ _ _ h => h)) (pa_cons (pe_fld (pv 0) rfl) (pa_cons (pe_fld (pv 1) rfl) pa_nil)))) (pss_one 
  (ps_ret (pe_callB (cr_all rfl) (by rfl) na (by decide +kernel) (pa_cons (pe_lc (own := [("three", 2)]) (g := gName 2) (by rfl) sc_is_within.nd (pi_tup (pe_fld (pv 1) rfl)) (blkOk_by (own := [("three", 2)]) (N := ["one", "other", "three"]) (sc := defScope s_is_within) (by decide +kernel)) (fun _ _ _ _ _ => pg_name (i := 2) sc_is_within.nd rfl (Or.inl rfl)) (fun _ _ _ _ _ => pts_nil) (fun _ _ _ _ _ => (pe_cmpR (r := rInDT K) (op_inDT (units65 hr)) (pv 2) (show PE _ _ (tFld K (tVar 0) "barred") from pe_fld (pv 0) rfl) (by rfl)))) pa_nil))))), ?_⟩
    refine ⟨_, rfl, x, CB, dx, _, _, rfl, hx, c.cl, c.nT, bf_ties _ _ _ _, _, rfl, y, CB, dy, _, _, rfl, hy, c.cl, c.nT, bf_ties _ _ _ _, t, t', ns, ms, rfl, hT, hT', k1, fun e => ?_⟩
    obtain ⟨lM, k⟩ := k2 e
    obtain ⟨ps, e1, e2, e3⟩ := hb'
    refine ⟨_, rfl, y, CB, dy, _, _, rfl, hy, c.cl, c.nB, bf_barred _ _ _ _, b', rfl, ⟨_, SqT.of e1⟩, fun D hD => ?_⟩
    refine lc_tup (K := K) (a := b') (xs := ps.map V.ref) (fun i H2 => Same H H2 ∧ H D = none ∧ H2 D = some (.lst ((M.take i).map fun t => V.bl (decide (t ∈ L))))) ⟨new_same hD, hD, upd_same⟩ (fun i H2 _ ⟨S2, _⟩ => SqT.of (S2 _ _ e1)) ?_ ?_
    · rintro i v H2 hv ⟨S2, D0, eD⟩
      rw [List.getElem?_map] at hv
      cases ea : ps[i]? with
      | none =>
        rw [ea] at hv
        cases hv
      | some z =>
        rw [ea] at hv
        obtain rfl : V.ref z = v := Option.some.inj hv
        have li := (List.getElem?_eq_some_iff.mp ea).1
        have el : M[i]? = some M[i] := List.getElem?_eq_getElem (by omega)
        generalize M[i] = u at el
        have hz := S2 _ _ (e3 i z u ea el)
        refine ⟨rfl, yesT ?_⟩
        refine ⟨_, rfl, _, rfl, x, CB, dx, _, _, rfl, S2 _ _ hx, c.cl, c.nB, bf_barred _ _ _ _, in_tups (hb.keep S2) hz ⟨_, eD, small1000 (by rw [List.length_map, List.length_take]; omega), fun o w eo => ?_, D0, ?_⟩⟩
        · rw [upd_ne (ne_of_none eo D0)]
          exact S2 _ _ eo
        · rw [upd_same, List.take_add_one, el, List.map_append]
          rfl
    · rintro H2 ⟨S2, D0, eD⟩
      rw [List.length_map, e2, List.take_length] at eD
      refine ⟨D, M.map fun t => decide (t ∈ L), rfl, SqL.of (by rw [List.map_map]; exact eD), k _ _ S2 ?_⟩
      rw [List.all_map, List.all_eq_true]
      exact ⟨fun h t ht => of_decide_eq_true (h t ht), fun h t ht => decide_eq_true (h t ht)⟩
end
end J

set_option Elab.async false
set_option linter.all false
set_option maxRecDepth 100000
set_option maxHeartbeats 4000000
namespace J
open PySem PySem.Spec PyProof.Rows L2
/-! ### _law_any_world, _law_both -/
theorem ixL {K : PySem.W.Frag} {H : Hp} {p : Addr} {xs : List V} {z : Int} {j : Nat} {v : V} {Q : VK} (h : H p = some (.lst xs)) (e : z = (j : Nat)) (g : xs[j]? = some v) (q : Q v H) : rIxL K (.ref p) (.int z) H Q := ⟨p, xs, z, v, rfl, rfl, SqL.of h, at_of e g, q⟩
/-- a list of threes that grows while the hand changes -/
structure GroH (h q : Addr) (H1 H : Hp) (D : Addr) (L : List (List Int)) : Prop where
  B : But h H1 H
  hh : Hand H h q
  f : H1 D = none
  nh : D ≠ h
  nq : D ≠ q
  l : LstsAt H D L
theorem GroH.nil {h q D : Addr} {H1 : Hp} (hh : Hand H1 h q) (hD : H1 D = none) : GroH h q H1 (upd H1 D (.lst [])) D [] := by
  obtain ⟨n1, n2⟩ := hh.same_h' hD
  exact ⟨But.new hD, hh.new hD, hD, n1, n2, [], upd_same, rfl, fun j a ts e => by cases e⟩
theorem GroH.step {h q D : Addr} {H1 H H' : Hp} {L : List (List Int)} (G : GroH h q H1 H D L) (B : But h H H') (hh : Hand H' h q) : GroH h q H1 H' D L := by
  obtain ⟨us, eh⟩ : ∃ us, H h = some (.lst us) := by
    obtain ⟨cs, i, r, t, e1, _⟩ := G.hh
    exact ⟨_, e1⟩
  exact ⟨G.B.trans B, hh, G.f, G.nh, G.nq, G.l.but eh G.nh B⟩
theorem GroH.app {h q D z : Addr} {H1 H : Hp} {L : List (List Int)} {t : List Int} (G : GroH h q H1 H D L) (ez : H z = some (.tup (t.map V.int))) : ∃ acc, H D = some (.lst acc) ∧ acc.length = L.length ∧ GroH h q H1 (upd H D (.lst (acc ++ [.ref z]))) D (L ++ [t]) := by
  obtain ⟨ps, e1, e2, e3⟩ := id G.l
  refine ⟨_, e1, by rw [List.length_map, e2], G.B.put2 G.f, G.hh.put G.nh.symm G.nq.symm, G.f, G.nh, G.nq, G.l.push e1 ez⟩
abbrev s_Lany_world : Stmt := top 47
theorem sc_Lany_world : FnScope ["_law_hand_here", "_law_many", "_law_backs_here", "_law_share", "_law_three"] ["_law_hand_here", "_law_many"] (defScope s_Lany_world) := ⟨rfl, rfl, rfl, by decide +kernel, rfl, by decide +kernel, by decide +kernel⟩
abbrev s_Lboth : Stmt := top 60
theorem sc_Lboth : FnScope ["_law_one", "_law_other", "_law_way", "_law_backs_here", "_law_classes_here", "_law_three", "_law_first", "_law_second"] ["_law_one", "_law_other", "_law_way"] (defScope s_Lboth) := ⟨rfl, rfl, rfl, by decide +kernel, rfl, by decide +kernel, by decide +kernel⟩
def spAW : Sp := fun vs H Q _ => ∃ (h q : Addr) (m : Int), vs = [.ref h, .int m] ∧ 2 ≤ m ∧ m ≤ 4 ∧ Hand H h q ∧ ∀ (H' : Hp) (x : Addr) (ns : List Int) (L : List (List Int)), (ns.length : Nat) = m → GoodB ns → But h H H' → Hand H' h q → WAt H' x ns L → Cl ns L → Q (.ref x) H'
def bothL (ns : List Int) (way : Int) (L M : List (List Int)) : List (List Int) := if way = 0 then orL ns L M else andL ns L M
def spBoth : Sp := fun vs H Q _ => ∃ (x y : Addr) (ns : List Int) (L M : List (List Int)) (way : Int), vs = [.ref x, .ref y, .int way] ∧ WAt H x ns L ∧ WAt H y ns M ∧ GoodB ns ∧ Cl ns L ∧ Cl ns M ∧ ∀ (H' : Hp) (z : Addr), Same H H' → WAt H' z ns (bothL ns way L M) → Q (.ref z) H'
theorem lsts_thr {H : Hp} {z : Addr} {L : List (List Int)} (h : LstsAt H z L) : ∃ xs, H z = some (.lst xs) ∧ ThrAt H xs L := by
  obtain ⟨ps, e1, e2, e3⟩ := h
  refine ⟨_, e1, ?_⟩
  have : ∀ {ps : List Addr} {L : List (List Int)}, ps.length = L.length → (∀ (j : Nat) (a : Addr) (ts : List Int), ps[j]? = some a → L[j]? = some ts → H a = some (.tup (ts.map V.int))) → ThrAt H (ps.map V.ref) L := by
    intro ps
    induction ps with
    | nil => intro L h _; cases L with
      | nil => exact .nil
      | cons => cases h
    | cons p ps ih => intro L h f; cases L with
      | nil => cases h
      | cons t L => exact .cons ⟨.tup (t.map V.int), ⟨p, rfl, f 0 p t rfl rfl⟩, rfl, rfl⟩ (ih (Nat.succ.inj h) fun j a b e1 e2 => f (j + 1) a b (by simpa using e1) (by simpa using e2))
  exact this e2 e3
theorem map3 {p q r : Int} : ([p, q, r] : List Int).map V.int = [.int p, .int q, .int r] := rfl
/-- a three of the classes, by its numbers -/
theorem A3_nat {n : Nat} {t : List Int} (h : t ∈ A3 n n) : ∃ p q r : Nat, p < n ∧ q < n ∧ r < n ∧ t = [(p : Int), (q : Int), (r : Int)] := A3_mem.mp h
theorem fB_in {L : List (List Int)} {p q r : Nat} : (!fB L p q r) = inL L [(p : Int), (q : Int), (r : Int)] := by
  unfold fB
  rw [Bool.not_not]
section
variable {P : Program} {w : World} {K : PySem.W.Frag} {mg : Str → Option Value} {base : Heap}
theorem ok_Lany_world {f fB fD fC fL : Addr} {fd fdB fdD fdC fdL : FuncData} (F : Fun K "_law_any_world" "_law_any_world" s_Lany_world f fd) (GB : Cal P w K mg base CX0 3 "_law_backs" fB fdB ["_law_hand_here", "_law_many"] spBacks) (GD : Cal P w K mg base CX0 2 "_law_draw" fD fdD ["_law_hand_here", "_law_many"] spDraw)
    (GC : Cal P w K mg base CX0 2 "_law_classes" fC fdC ["_law_backs_here"] spLC) (GL : Cal P w K mg base CX0 2 "_law_let" fL fdL ["_law_backs_here", "_law_classes_here"] spLL) : FnOk P w K mg base CX0 4 f fd ["_law_hand_here", "_law_many"] spAW := by
  refine F.ok sc_Lany_world (fun vs H Q E h => ?_) (fun cdv A outer s H vs Q E hr h => ?_)
  · obtain ⟨h, q, m, rfl, _⟩ := h
    rfl
  · obtain ⟨h, q, m, rfl, m2, m4, hh, k⟩ := h
    refine ⟨_, (pss_cons 
  (ps_set (i := 2) sc_Lany_world.nd rfl (Or.inl rfl) (pcal GB hr pass0 (pa_cons (pv 0) (pa_cons (pv 1) pa_nil)))) (pss_cons 
  (ps_set (i := 3) sc_Lany_world.nd rfl (Or.inr rfl) (pe_op op_add pe_int (pcal GD hr pass0 (pa_cons (pv 0) (pa_cons pe_int pa_nil))))) (pss_one 
  (ps_ret (pe_tup (pa_cons (pv 2) (pa_cons (pcal GL hr pass0 (pa_cons (pv 2) (pa_cons (pe_lc (own := [("_law_three", 4)]) (g := gName 4) (by rfl) sc_Lany_world.nd (pi_list (pcal GC hr pass0 (pa_cons (pv 2) pa_nil))) (blkOk_by (own := [("_law_three", 4)]) (N := ["_law_hand_here", "_law_many", "_law_backs_here", "_law_share", "_law_three"]) (sc := defScope s_Lany_world) (by decide +kernel)) (fun _ _ _ _ _ => pg_name (i := 4) sc_Lany_world.nd rfl (Or.inl rfl)) (fun _ _ _ _ _ => pts_one (pt_cmpR op_eq (pcal GD hr pass0 (pa_cons (pv 0) (pa_cons (pv 3) pa_nil))) pe_int (nomark _))) (fun _ _ _ _ _ => (pv 4))) pa_nil))) pa_nil))))))), ?_⟩
    refine ⟨_, rfl, _, rfl, h, q, m, rfl, m2, m4, hh, fun ns b H1 ln gb B1 nb eb h1 => ?_⟩
    refine ⟨_, rfl, h, q, 3, rfl, by decide, by decide, h1, fun v H2 v0 v3 B2 h2 => ⟨_, _, rfl, rfl, ?_⟩⟩
    have nbh := (hand_free hh nb)
    have eb2 := B2 _ _ nbh eb
    refine ⟨_, rfl, _, rfl, _, rfl, b, ns, rfl, eb2, gb, fun H3 z S3 nz Lz => ?_⟩
    have h3 := h2.keep S3
    have eb3 := S3 _ _ eb2
    obtain ⟨us3, eh3⟩ : ∃ us, H3 h = some (.lst us) := by
      obtain ⟨cs, i, r, t, e1, _⟩ := h3
      exact ⟨_, e1⟩
    have nzh := hand_free h2 nz
    obtain ⟨ps, e1, e2, e3⟩ := id Lz
    refine ⟨z, rfl, ⟨_, SqL.of e1⟩, fun D hD => ?_⟩
    refine lc_list (K := K) (a := z) (xs := ps.map V.ref) (fun i H4 => ∃ cs, GroH h q H3 H4 D cs ∧ cs.length ≤ i ∧ ∀ c ∈ cs, c ∈ A3 ns.length ns.length) ⟨[], GroH.nil h3 hD, Nat.le_refl _, fun c hc => by cases hc⟩ (fun i H4 _ ⟨cs, G, _⟩ => SqL.of (G.B _ _ nzh e1)) ?_ ?_
    · rintro i y H4 hy ⟨cs, G, lc, ca⟩
      rw [List.getElem?_map] at hy
      cases ea : ps[i]? with
      | none =>
        rw [ea] at hy
        cases hy
      | some a =>
        rw [ea] at hy
        obtain rfl : V.ref a = y := Option.some.inj hy
        have li := (List.getElem?_eq_some_iff.mp ea).1
        have el := List.getElem?_eq_getElem (l := (A3 ns.length ns.length).filter (isL ns)) (i := i) (by omega)
        have lt : i < 64 := by
          have := List.length_filter_le (isL ns) (A3 ns.length ns.length)
          have := A3_len _ gb.hi
          omega
        have mt := (List.mem_filter.mp (List.mem_of_getElem? el)).1
        generalize ((A3 ns.length ns.length).filter (isL ns))[i]'(by omega) = t at el mt
        have ha := e3 i a t ea el
        have ha4 : H4 a = some (.tup (t.map V.int)) := G.B _ _ (fun e => by rw [e, eh3] at ha; cases ha) ha
        refine ⟨rfl, _, rfl, _, rfl, h, q, 2 + v, rfl, by omega, by omega, G.hh, fun u H5 u0 u1 B5 h5 => ⟨rfl, _, rfl, ?_⟩⟩
        have G5 := G.step B5 h5
        have ha5 : H5 a = some (.tup (t.map V.int)) := B5 _ _ (fun e => by rw [e, eh3] at ha; cases ha) ha4
        refine ifD (fun c => ?_) (fun c => ⟨cs, G5, by omega, ca⟩)
        obtain ⟨acc, q1, q2, q3⟩ := G5.app ha5
        refine ⟨_, rfl, acc, q1, by rw [q2]; exact small1000 (by omega), cs ++ [t], q3, by rw [List.length_append]; show _ + 1 ≤ _; omega, fun c hc => ?_⟩
        rcases List.mem_append.mp hc with hc | hc
        · exact ca c hc
        · rw [List.mem_singleton.mp hc]; exact mt
    · rintro H4 ⟨cs, G, lc, ca⟩
      obtain ⟨xs, ex, thr⟩ := lsts_thr G.l
      have eb4 := G.B _ _ nbh eb3
      refine ⟨b, D, ns, xs, cs, rfl, eb4, gb, ex, thr, ca, fun H5 z5 po ro W5 => ?_⟩
      refine ⟨(by show 2 ≤ sizeLine; decide), fun x hx => ?_⟩
      have S6 := new_same (o := .tup [.ref b, .ref z5]) hx
      have W6 := W5.keep S6
      refine k _ x ns _ ln gb ?_ ((G.hh.keep W5.S).keep S6) (W6.world (S6 _ _ (W5.S _ _ eb4)) upd_same) (cl_brd gb ca)
      exact (((B1.trans B2).trans (But.same S3)).trans G.B).trans (But.same (W5.S.trans S6))
theorem ok_Lboth {f fC fL : Addr} {fd fdC fdL : FuncData} (F : Fun K "_law_both" "_law_both" s_Lboth f fd) (GC : Cal P w K mg base CX0 2 "_law_classes" fC fdC ["_law_backs_here"] spLC) (GL : Cal P w K mg base CX0 2 "_law_let" fL fdL ["_law_backs_here", "_law_classes_here"] spLL) :
    FnOk P w K mg base CX0 3 f fd ["_law_one", "_law_other", "_law_way"] spBoth := by
  refine F.ok sc_Lboth (fun vs H Q E h => ?_) (fun cdv A outer s H vs Q E hr h => ?_)
  · obtain ⟨x, y, ns, L, M, way, rfl, _⟩ := h
    rfl
  · obtain ⟨x, y, ns, L, M, way, rfl, ⟨b, z, po, ro, x1, x2, x3, x4, x5⟩, ⟨b', z', po', ro', y1, y2, y3, y4, y5⟩, gb, cL, cM, k⟩ := h
    refine ⟨_, (pss_cons 
  (ps_set (i := 3) sc_Lboth.nd rfl (Or.inl rfl) (pe_ix ix_tup (pv 0) pe_int (fun _ _ => rfl))) (pss_cons 
  (ps_set (i := 4) sc_Lboth.nd rfl (Or.inl rfl) (pe_lst pa_nil)) (pss_cons 
  (ps_for PassesOwn.never rfl (pi_list (pcal GC hr pass0 (pa_cons (pv 3) pa_nil))) (pg_name (i := 5) sc_Lboth.nd rfl (Or.inl rfl)) (pss_cons 
    (ps_set (i := 6) sc_Lboth.nd rfl (Or.inl rfl) (pe_not (pe_ix ix_list (pe_ix ix_list (pe_ix ix_list (pe_ix ix_tup (pv 0) pe_int (fun _ _ => rfl)) (pe_ix ix_tup (pv 5) pe_int (fun _ _ => rfl)) (fun _ _ => rfl)) (pe_ix ix_tup (pv 5) pe_int (fun _ _ => rfl)) (fun _ _ => rfl)) (pe_ix ix_tup (pv 5) pe_int (fun _ _ => rfl)) (fun _ _ => rfl)))) (pss_cons 
    (ps_set (i := 7) sc_Lboth.nd rfl (Or.inl rfl) (pe_not (pe_ix ix_list (pe_ix ix_list (pe_ix ix_list (pe_ix ix_tup (pv 1) pe_int (fun _ _ => rfl)) (pe_ix ix_tup (pv 5) pe_int (fun _ _ => rfl)) (fun _ _ => rfl)) (pe_ix ix_tup (pv 5) pe_int (fun _ _ => rfl)) (fun _ _ => rfl)) (pe_ix ix_tup (pv 5) pe_int (fun _ _ => rfl)) (fun _ _ => rfl)))) (pss_one 
    (ps_if (PW.pt (pw_or (PW.pt (pw_and (pt_cmpR op_eq (pv 2) pe_int (nomark _)) (pw_and1 (PW.pt (pw_or (pt_val (pv 6)) (pw_or1 (pt_val (pv 7)))))))) (pw_or1 (PW.pt (pw_and (pt_val (pv 6)) (pw_and1 (pt_val (pv 7)))))))) (pss_one 
      (ps_expr (pe_bm PySem.F.plainAttrs_list PySem.F.slot_list_append PySem.F.type_list_append mt_append (pv 4) (pa_cons (pv 5) pa_nil)))) pss_nil))))) (pss_one 
  (ps_ret (pe_tup (pa_cons (pv 3) (pa_cons (pcal GL hr pass0 (pa_cons (pv 3) (pa_cons (pv 4) pa_nil))) pa_nil)))))))), ?_⟩
    refine ⟨_, rfl, ixT (z := 0) x1 (j := 0) rfl rfl ⟨Nat.zero_le _, fun D hD => ?_⟩⟩
    refine ⟨_, rfl, b, ns, rfl, new_same hD _ _ x2, gb, fun H1 c S1 nc Lc => ?_⟩
    have G0 : Gro H (upd H D (.lst [])) D [] := Gro.nil hD
    obtain ⟨ps, e1, e2, e3⟩ := id Lc
    have G1 : Gro H H1 D [] := G0.keep S1
    have ncD : c ≠ D := fun e => by
      subst e
      rw [upd_same] at nc
      cases nc
    let pb : List Int → Bool := fun t => if way = 0 then inL L t || inL M t else inL L t && inL M t
    refine ⟨c, rfl, ⟨_, SqL.of e1⟩, for_list (K := K) (a := c) (xs := ps.map V.ref) (fun i σ H2 => (∃ v5 v6 v7 : Option V, σ = [some (.ref x), some (.ref y), some (.int way), some (.ref b), some (.ref D), v5, v6, v7]) ∧ But D H1 H2 ∧ Gro H H2 D ((((A3 ns.length ns.length).filter (isL ns)).take i).filter pb))
      ⟨⟨none, none, none, rfl⟩, But.refl _ _, G1⟩ (fun i σ H2 _ ⟨_, B2, _⟩ => SqL.of (B2 _ _ ncD e1)) ?_ ?_⟩
    · rintro i v σ H2 hv ⟨⟨v5, v6, v7, rfl⟩, B2, G⟩
      rw [List.getElem?_map] at hv
      cases ea : ps[i]? with
      | none =>
        rw [ea] at hv
        cases hv
      | some a =>
        rw [ea] at hv
        obtain rfl : V.ref a = v := Option.some.inj hv
        have li := (List.getElem?_eq_some_iff.mp ea).1
        have el := List.getElem?_eq_getElem (l := (A3 ns.length ns.length).filter (isL ns)) (i := i) (by omega)
        have lt : i < 64 := by
          have := List.length_filter_le (isL ns) (A3 ns.length ns.length)
          have := A3_len _ gb.hi
          omega
        have mt := (List.mem_filter.mp (List.mem_of_getElem? el)).1
        generalize ht : ((A3 ns.length ns.length).filter (isL ns))[i]'(by omega) = t at el mt
        have ha := e3 i a t ea el
        obtain ⟨accD, eD, _⟩ : ∃ acc, H1 D = some (.lst acc) ∧ True := by
          obtain ⟨ps', d1, _⟩ := G1.d
          exact ⟨_, d1, trivial⟩
        have ha2 : H2 a = some (.tup (t.map V.int)) := B2 _ _ (fun e => by rw [e, eD] at ha; cases ha) ha
        obtain ⟨p, q, r, hp, hq, hrr, rfl⟩ := A3_nat mt
        have S := G.S
        have tf := take_filter (p := pb) el
        refine ⟨_, rfl, ?_⟩
        refine ⟨_, _, 1, _, rfl, rfl, SqT.of (S _ _ x1), at_of (j := 1) rfl rfl, ?_⟩
        refine ⟨_, rfl, ?_⟩
        refine ⟨_, _, 0, _, rfl, rfl, SqT.of ha2, at_of (j := 0) rfl rfl, ?_⟩
        refine ⟨_, _, _, _, rfl, rfl, SqL.of (S _ _ x3), at_of (j := p) rfl (refs_at hp), ?_⟩
        refine ⟨_, rfl, ?_⟩
        refine ⟨_, _, 1, _, rfl, rfl, SqT.of ha2, at_of (j := 1) rfl rfl, ?_⟩
        refine ⟨_, _, _, _, rfl, rfl, SqL.of (S _ _ (x4 p hp)), at_of (j := q) rfl (refs_at hq), ?_⟩
        refine ⟨_, rfl, ?_⟩
        refine ⟨_, _, 2, _, rfl, rfl, SqT.of ha2, at_of (j := 2) rfl rfl, ?_⟩
        refine ⟨_, _, _, _, rfl, rfl, SqL.of (S _ _ (x5 p q hp hq)), at_of (j := r) rfl (bools_at hrr), ?_⟩
        refine ⟨_, rfl, ?_⟩
        refine ⟨_, rfl, ?_⟩
        refine ⟨_, _, 1, _, rfl, rfl, SqT.of (S _ _ y1), at_of (j := 1) rfl rfl, ?_⟩
        refine ⟨_, rfl, ?_⟩
        refine ⟨_, _, 0, _, rfl, rfl, SqT.of ha2, at_of (j := 0) rfl rfl, ?_⟩
        refine ⟨_, _, _, _, rfl, rfl, SqL.of (S _ _ y3), at_of (j := p) rfl (refs_at hp), ?_⟩
        refine ⟨_, rfl, ?_⟩
        refine ⟨_, _, 1, _, rfl, rfl, SqT.of ha2, at_of (j := 1) rfl rfl, ?_⟩
        refine ⟨_, _, _, _, rfl, rfl, SqL.of (S _ _ (y4 p hp)), at_of (j := q) rfl (refs_at hq), ?_⟩
        refine ⟨_, rfl, ?_⟩
        refine ⟨_, _, 2, _, rfl, rfl, SqT.of ha2, at_of (j := 2) rfl rfl, ?_⟩
        refine ⟨_, _, _, _, rfl, rfl, SqL.of (S _ _ (y5 p q hp hq)), at_of (j := r) rfl (bools_at hrr), ?_⟩
        refine ⟨_, rfl, ?_⟩
        rw [fB_in, fB_in]
        generalize htt : [(p : Int), (q : Int), (r : Int)] = t at *
        obtain ⟨acc, q1, q2, q3⟩ := G.app ha2
        have sm : acc.length < sizeLine := by
          have := List.length_filter_le pb (((A3 ns.length ns.length).filter (isL ns)).take i)
          rw [List.length_take] at this
          rw [q2]
          exact small1000 (by omega)
        refine ⟨_, rfl, rfl, _, rfl, ?_⟩
        by_cases c0 : way = 0
        · have pe : pb t = (inL L t || inL M t) := if_pos c0
          refine if_tr (decide_eq_true (by rw [c0])) ?_
          cases hL : inL L t with
          | true =>
            have PB : pb t = true := by rw [pe, hL]; rfl
            exact ⟨_, rfl, _, rfl, iteT (iteT (iteT ⟨_, rfl, .inl ⟨rfl, _, SqL.of q1⟩, _, rfl, D, _, _, rfl, rfl, q1, sm, ⟨⟨_, _, _, rfl⟩, B2.trans But.put, by rw [tf, if_pos PB]; exact q3⟩⟩))⟩
          | false =>
            cases hM : inL M t with
            | true =>
              have PB : pb t = true := by rw [pe, hL, hM]; rfl
              exact ⟨_, rfl, _, rfl, iteF ⟨_, rfl, _, rfl, iteT (iteT ⟨_, rfl, .inl ⟨rfl, _, SqL.of q1⟩, _, rfl, D, _, _, rfl, rfl, q1, sm, ⟨⟨_, _, _, rfl⟩, B2.trans But.put, by rw [tf, if_pos PB]; exact q3⟩⟩)⟩⟩
            | false =>
              have PB : pb t = false := by rw [pe, hL, hM]; rfl
              exact ⟨_, rfl, _, rfl, iteF ⟨_, rfl, _, rfl, iteF ⟨_, rfl, _, rfl, iteF (iteF ⟨⟨_, _, _, rfl⟩, B2, by rw [tf, if_neg (by rw [PB]; decide), List.append_nil]; exact G⟩)⟩⟩⟩
        · have pe : pb t = (inL L t && inL M t) := if_neg c0
          refine if_fa (decide_eq_false (by intro z; exact c0 (V.int.inj z))) (iteF ?_)
          cases hL : inL L t with
          | false =>
            have PB : pb t = false := by rw [pe, hL]; rfl
            exact ⟨_, rfl, _, rfl, iteF (iteF ⟨⟨_, _, _, rfl⟩, B2, by rw [tf, if_neg (by rw [PB]; decide), List.append_nil]; exact G⟩)⟩
          | true =>
            cases hM : inL M t with
            | true =>
              have PB : pb t = true := by rw [pe, hL, hM]; rfl
              exact ⟨_, rfl, _, rfl, iteT ⟨_, rfl, _, rfl, iteT ⟨_, rfl, .inl ⟨rfl, _, SqL.of q1⟩, _, rfl, D, _, _, rfl, rfl, q1, sm, ⟨⟨_, _, _, rfl⟩, B2.trans But.put, by rw [tf, if_pos PB]; exact q3⟩⟩⟩⟩
            | false =>
              have PB : pb t = false := by rw [pe, hL, hM]; rfl
              exact ⟨_, rfl, _, rfl, iteT ⟨_, rfl, _, rfl, iteF ⟨⟨_, _, _, rfl⟩, B2, by rw [tf, if_neg (by rw [PB]; decide), List.append_nil]; exact G⟩⟩⟩
    · rintro σ H2 ⟨⟨v5, v6, v7, rfl⟩, B2, G⟩
      rw [List.length_map, e2, List.take_length] at G
      have cls : brd ns (((A3 ns.length ns.length).filter (isL ns)).filter pb) = bothL ns way L M := by
        unfold bothL
        by_cases c : way = 0
        · rw [if_pos c, show pb = fun t => inL L t || inL M t from funext fun t => if_pos c]
          exact brd_cls gb (or_cl gb cL cM)
        · rw [if_neg c, show pb = fun t => inL L t && inL M t from funext fun t => if_neg c]
          exact brd_cls gb (and_cl gb cL cM)
      obtain ⟨xs, ex, thr⟩ := lsts_thr G.lsts
      refine ⟨_, rfl, _, rfl, _, rfl, b, D, ns, xs, _, rfl, G.S _ _ x2, gb, ex, thr, fun u hu => (List.mem_filter.mp (List.mem_filter.mp hu).1).1, fun H5 z5 po5 ro5 W5 => ?_⟩
      refine ⟨(by show 2 ≤ sizeLine; decide), fun xx hx => ?_⟩
      have S6 := new_same (o := .tup [.ref b, .ref z5]) hx
      rw [cls] at W5
      have W6 := W5.keep S6
      exact k _ xx ((G.S.trans W5.S).trans S6) (W6.world (S6 _ _ (W5.S _ _ (G.S _ _ x2))) upd_same)
end
end J

set_option Elab.async false
set_option linter.all false
set_option maxRecDepth 100000
set_option maxHeartbeats 4000000
namespace J
open PySem PySem.Spec PyProof.Rows L2
/-! ### _law_bars_handed, _law_book -/
theorem Cl.brd {ns : List Int} {L : List (List Int)} (g : GoodB ns) (h : Cl ns L) : brd ns L = L := by
  have e := brd_closed (p := inL L) g (fun t u hu e q => inL_iff.mpr (h.c t u hu e (inL_iff.mp q)))
  rw [h.o] at e
  exact e
/-- what is handed in for the first classes -/
structure BarsT (ns : List Int) (L cs us : List (List Int)) : Prop where
  a : ∀ u ∈ us, ∃ c ∈ cs, c ∈ L ∧ inR ns u c = true
  b : ∀ c ∈ cs, c ∈ L → ∃ u ∈ us, inR ns u c = true
theorem BarsT.end_ {ns : List Int} {L us : List (List Int)} (g : GoodB ns) (cL : Cl ns L) (h : BarsT ns L ((A3 ns.length ns.length).filter (isL ns)) us) : (∀ u ∈ us, u ∈ A3 ns.length ns.length) ∧ brd ns us = L := by
  have ha : ∀ u ∈ us, u ∈ A3 ns.length ns.length := fun u hu => by
    obtain ⟨c, hc, _, e⟩ := h.a u hu
    exact inR_A3 g (List.mem_filter.mp hc).1 e
  refine ⟨ha, ?_⟩
  refine Eq.trans (brd_eq g ha (fun u hu => cL.sub u hu) fun t ht => ?_) (cL.brd g)
  constructor
  · rintro ⟨u, hu, e⟩
    obtain ⟨c, hc, hcL, e2⟩ := h.a u hu
    exact ⟨c, hcL, inR_trans g (cL.sub c hcL) e e2⟩
  · rintro ⟨u, hu, e⟩
    have hu3 := cL.sub u hu
    obtain ⟨v, hv, l, e2⟩ := least_ex g hu3
    obtain ⟨x, hx, e3⟩ := h.b v (List.mem_filter.mpr ⟨hv, l⟩) ((cL.two g hu3 e2).mpr hu)
    have hx3 := ha x hx
    exact ⟨x, hx, inR_trans g hx3 (inR_trans g hv e (inR_swap g hu3 e2)) (inR_swap g hv e3)⟩
theorem eqv_tupL (L M : List (List Int)) : PyData.eqv (.list (tupsD L)) (.list (tupsD M)) = decide (L = M) := by
  rw [← eqv_tups]
  simp [PyData.eqv]
theorem LstsAt.ins {H : Hp} {z d : Addr} {L : List (List Int)} {t : List Int} {ps : List Addr} {i : Nat} (h : LstsAt H z L) (e : H z = some (.lst (ps.map V.ref))) (ed : H d = some (.tup (t.map V.int))) : LstsAt (upd H z (.lst ((ps.map V.ref).take i ++ [.ref d] ++ (ps.map V.ref).drop i))) z (L.take i ++ [t] ++ L.drop i) := by
  obtain ⟨qs, e1, e2, e3⟩ := h
  have eq : qs = ps := by
    rw [e1] at e
    exact map_ref_inj (HO.lst.inj (Option.some.inj e))
  subst eq
  refine ⟨qs.take i ++ [d] ++ qs.drop i, by rw [upd_same, List.map_append, List.map_append, List.map_take, List.map_drop]; rfl, by simp [e2], fun j a ts ea et => ?_⟩
  have key : H a = some (.tup (ts.map V.int)) := by
    rcases Nat.lt_or_ge j (qs.take i).length with q | q
    · have lq : j < (L.take i).length := by rw [List.length_take] at q ⊢; omega
      rw [List.append_assoc, List.getElem?_append_left q, List.getElem?_take_of_lt (by rw [List.length_take] at q; omega)] at ea
      rw [List.append_assoc, List.getElem?_append_left lq, List.getElem?_take_of_lt (by rw [List.length_take] at q; omega)] at et
      exact e3 j a ts ea et
    · have lq : (L.take i).length ≤ j := by rw [List.length_take] at q ⊢; omega
      have ll : (L.take i).length = (qs.take i).length := by rw [List.length_take, List.length_take, e2]
      rw [List.append_assoc, List.getElem?_append_right q] at ea
      rw [List.append_assoc, List.getElem?_append_right lq, ll] at et
      generalize j - (qs.take i).length = k at ea et
      cases k with
      | zero =>
        obtain rfl : d = a := Option.some.inj ea
        obtain rfl : t = ts := Option.some.inj et
        exact ed
      | succ k =>
        have ea' : (qs.drop i)[k]? = some a := ea
        have et' : (L.drop i)[k]? = some ts := et
        rw [List.getElem?_drop] at ea' et'
        exact e3 _ a ts ea' et'
  rw [upd_ne (ne_of key e1 (by intro z; cases z))]
  exact key
abbrev s_Lbars_handed : Stmt := top 48
theorem sc_Lbars_handed : FnScope ["_law_hand_here", "_law_world", "_law_backs_here", "_law_let_here", "_law_found", "_law_three", "_law_place"] ["_law_hand_here", "_law_world"] (defScope s_Lbars_handed) := ⟨rfl, rfl, rfl, by decide +kernel, rfl, by decide +kernel, by decide +kernel⟩
abbrev s_Lbook : Stmt := top 53
theorem sc_Lbook : FnScope ["_law_hand_here", "_law_world"] ["_law_hand_here", "_law_world"] (defScope s_Lbook) := ⟨rfl, rfl, rfl, by decide +kernel, rfl, by decide +kernel, by decide +kernel⟩
def spBH : Sp := fun vs H Q _ => ∃ (h q x : Addr) (ns : List Int) (L : List (List Int)), vs = [.ref h, .ref x] ∧ Hand H h q ∧ WAt H x ns L ∧ GoodB ns ∧ Cl ns L ∧ ∀ (H' : Hp) (D : Addr) (us : List (List Int)), But h H H' → Hand H' h q → H D = none → LstsAt H' D us → (∀ u ∈ us, u ∈ A3 ns.length ns.length) → brd ns us = L → Q (.ref D) H'
def spLBook (C CB : Addr) : Sp := fun vs H Q _ => ∃ (h q x : Addr) (ns : List Int) (L : List (List Int)), vs = [.ref h, .ref x] ∧ Hand H h q ∧ WAt H x ns L ∧ GoodB ns ∧ Cl ns L ∧ ∀ (H' : Hp) (z : Addr), But h H H' → Hand H' h q → H z = none → BookAt C CB H' z ns L → Q (.ref z) H'
section
variable {P : Program} {w : World} {K : PySem.W.Frag} {mg : Str → Option Value} {base : Heap}
theorem ok_Lbars_handed {f fD fC fP fR : Addr} {fd fdD fdC fdP fdR : FuncData} (F : Fun K "_law_bars_handed" "_law_bars_handed" s_Lbars_handed f fd) (nl : mg "len" = none) (GD : Cal P w K mg base CX0 2 "_law_draw" fD fdD ["_law_hand_here", "_law_many"] spDraw) (GC : Cal P w K mg base CX0 2 "_law_classes" fC fdC ["_law_backs_here"] spLC)
    (GP : Cal P w K mg base CX0 3 "_law_pick" fP fdP ["_law_hand_here", "_law_things"] spPick) (GR : Cal P w K mg base CX0 1 "_law_readings" fR fdR ["_law_backs_here", "_law_p", "_law_q", "_law_r"] spLR) : FnOk P w K mg base CX0 4 f fd ["_law_hand_here", "_law_world"] spBH := by
  refine F.ok sc_Lbars_handed (fun vs H Q E h => ?_) (fun cdv A outer s H vs Q E hr h => ?_)
  · obtain ⟨h, q, x, ns, L, rfl, _⟩ := h
    rfl
  · obtain ⟨h, q, x, ns, L, rfl, hh, ⟨b, z, po, ro, x1, x2, x3, x4, x5⟩, gb, cL, k⟩ := h
    refine ⟨_, (pss_cons 
  (ps_asg (pv 1) (pg_tup (by rfl) (pgs_cons (pg_name (i := 2) sc_Lbars_handed.nd rfl (Or.inl rfl)) (pgs_cons (pg_name (i := 3) sc_Lbars_handed.nd rfl (Or.inl rfl)) pgs_nil)))) (pss_cons 
  (ps_set (i := 4) sc_Lbars_handed.nd rfl (Or.inl rfl) (pe_lst pa_nil)) (pss_cons 
  (ps_for PassesOwn.never rfl (pi_list (pcal GC hr pass0 (pa_cons (pv 2) pa_nil))) (pg_name (i := 5) sc_Lbars_handed.nd rfl (Or.inl rfl)) (pss_one 
    (ps_if (pt_not (pt_val (pe_ix ix_list (pe_ix ix_list (pe_ix ix_list (pv 3) (pe_ix ix_tup (pv 5) pe_int (fun _ _ => rfl)) (fun _ _ => rfl)) (pe_ix ix_tup (pv 5) pe_int (fun _ _ => rfl)) (fun _ _ => rfl)) (pe_ix ix_tup (pv 5) pe_int (fun _ _ => rfl)) (fun _ _ => rfl)))) (pss_cons 
      (ps_set (i := 6) sc_Lbars_handed.nd rfl (Or.inl rfl) (pcal GD hr pass0 (pa_cons (pv 0) (pa_cons (pe_op op_add (pe_callB call_len_seq (by rfl) nl PySem.boot_len (pa_cons (pv 4) pa_nil)) pe_int) pa_nil)))) (pss_one 
      (ps_expr (pe_bm PySem.F.plainAttrs_list PySem.F.slot_list_insert PySem.F.type_list_insert mt_insert (pv 4) (pa_cons (pv 6) (pa_cons (pcal GP hr pass0 (pa_cons (pv 0) (pa_cons (pcal GR hr pass0 (pa_cons (pv 2) (pa_cons (pe_ix ix_tup (pv 5) pe_int (fun _ _ => rfl)) (pa_cons (pe_ix ix_tup (pv 5) pe_int (fun _ _ => rfl)) (pa_cons (pe_ix ix_tup (pv 5) pe_int (fun _ _ => rfl)) pa_nil))))) pa_nil))) pa_nil)))))) pss_nil))) (pss_cons 
  (ps_if (PW.pt (pw_and (pt_cmpR (op_neD hr.units) (pv 4) (pe_lst pa_nil) (nomark _)) (pw_and1 (pt_cmpR op_eq (pcal GD hr pass0 (pa_cons (pv 0) (pa_cons pe_int pa_nil))) pe_int (nomark _))))) (pss_one 
    (ps_expr (pe_bm PySem.F.plainAttrs_list PySem.F.slot_list_append PySem.F.type_list_append mt_append (pv 4) (pa_cons (pe_ix ix_list (pv 4) pe_int (fun _ _ => rfl)) pa_nil)))) pss_nil) (pss_one 
  (ps_ret (pv 4))))))), ?_⟩
    refine ⟨_, rfl, x, _, rfl, SqT.of x1, rfl, _, _, rfl, _, _, rfl, rfl, Nat.zero_le _, fun D hD => ?_⟩
    have G0 : GroH h q H (upd H D (.lst [])) D [] := GroH.nil hh hD
    refine ⟨_, rfl, b, ns, rfl, new_same hD _ _ x2, gb, fun H1 c S1 nc Lc => ?_⟩
    have G1 := G0.step (But.same S1) (G0.hh.keep S1)
    have ncD : c ≠ D := fun e => by
      subst e
      rw [upd_same] at nc
      cases nc
    have nch : c ≠ h := hand_free G0.hh nc
    obtain ⟨us1, eh1⟩ : ∃ us, H1 h = some (.lst us) := by
      obtain ⟨cs, i, r, t, e1, _⟩ := G1.hh
      exact ⟨_, e1⟩
    obtain ⟨acc1, eD1, _⟩ : ∃ acc, H1 D = some (.lst acc) ∧ True := by
      obtain ⟨ps', d1, _⟩ := G1.l
      exact ⟨_, d1, trivial⟩
    obtain ⟨ps, e1, e2, e3⟩ := id Lc
    have keepB : ∀ {H2 : Hp}, (∀ a o, a ≠ h → a ≠ D → H1 a = some o → H2 a = some o) → ∀ {a : Addr} {xs : List V}, H1 a = some (.tup xs) → H2 a = some (.tup xs) := fun {H2} fr {a xs} e => fr _ _ (fun q => by rw [q, eh1] at e; cases e) (fun q => by rw [q, eD1] at e; cases e) e
    have wh : ∀ {a : Addr} {o : HO}, H a = some o → a ≠ h → H1 a = some o := fun e n => G1.B _ _ n e
    have nbh : b ≠ h := by
      intro e
      obtain ⟨cs, i, r, t, f1, _⟩ := hh
      rw [e, f1] at x2
      have x2 := HO.lst.inj (Option.some.inj x2)
      cases ns with
      | nil => cases x2
      | cons m ms => rw [List.map_cons] at x2; injection x2 with x2 _; cases x2
    have npos : 0 < ns.length := by have := gb.lo; omega
    have W1 : WAt H1 x ns L := (WAt.but (⟨b, z, po, ro, x1, x2, x3, x4, x5⟩ : WAt H x ns L) hh gb gb.lo G1.B)
    refine ⟨c, rfl, ⟨_, SqL.of e1⟩, for_list (K := K) (a := c) (xs := ps.map V.ref) (fun i σ H2 => (∃ v5 v6 : Option V, σ = [some (.ref h), some (.ref x), some (.ref b), some (.ref z), some (.ref D), v5, v6]) ∧ (∀ a o, a ≠ h → a ≠ D → H1 a = some o → H2 a = some o) ∧ ∃ us, GroH h q H H2 D us ∧ us.length ≤ i ∧ BarsT ns L (((A3 ns.length ns.length).filter (isL ns)).take i) us)
      ⟨⟨none, none, rfl⟩, fun _ _ _ _ e => e, [], G1, Nat.le_refl _, fun u hu => by (cases hu), fun c hc => by (cases hc)⟩ (fun i σ H2 _ ⟨_, fr, _⟩ => SqL.of (fr _ _ nch ncD e1)) ?_ ?_⟩
    · rintro i v σ H2 hv ⟨⟨v5, v6, rfl⟩, fr, us, G, ul, bt⟩
      rw [List.getElem?_map] at hv
      cases ea : ps[i]? with
      | none =>
        rw [ea] at hv
        cases hv
      | some a =>
        rw [ea] at hv
        obtain rfl : V.ref a = v := Option.some.inj hv
        have li := (List.getElem?_eq_some_iff.mp ea).1
        have el := List.getElem?_eq_getElem (l := (A3 ns.length ns.length).filter (isL ns)) (i := i) (by omega)
        have lt : i < 64 := by
          have := List.length_filter_le (isL ns) (A3 ns.length ns.length)
          have := A3_len _ gb.hi
          omega
        have mt := (List.mem_filter.mp (List.mem_of_getElem? el)).1
        generalize ht : ((A3 ns.length ns.length).filter (isL ns))[i]'(by omega) = t at el mt
        have ha2 := keepB fr (e3 i a t ea el)
        obtain ⟨p, qq, r, hp, hq, hrr, et⟩ := A3_nat mt
        have ha3 : H2 a = some (.tup [.int (p : Nat), .int (qq : Nat), .int (r : Nat)]) := by rw [et] at ha2; exact ha2
        have W2 : WAt H2 x ns L := WAt.but (⟨b, z, po, ro, x1, x2, x3, x4, x5⟩ : WAt H x ns L) hh gb gb.lo G.B
        have tk : ((A3 ns.length ns.length).filter (isL ns)).take (i + 1) = ((A3 ns.length ns.length).filter (isL ns)).take i ++ [t] := by rw [List.take_add_one, el]; rfl
        have B2 := G.B
        have znh : z ≠ h := by
          intro e
          obtain ⟨cs, i', r', t', f1, f2, f3, f4⟩ := hh
          rw [e, f1] at x3
          have x3 := HO.lst.inj (Option.some.inj x3)
          have l := congrArg List.length x3
          have : (refsL ns.length po)[1]? = some (.ref (po 1)) := refs_at (by have := gb.lo; omega)
          rw [← x3] at this
          cases this
        have y3 := B2 _ _ znh x3
        have pnh : ∀ p', p' < ns.length → po p' ≠ h := fun p' hp' e => by
          obtain ⟨cs, i', r', t', f1, f2, f3, f4⟩ := hh
          have x4' := x4 p' hp'
          rw [e, f1] at x4'
          have x4' := HO.lst.inj (Option.some.inj x4')
          have : (refsL ns.length (ro p'))[1]? = some (.ref (ro p' 1)) := refs_at (by have := gb.lo; omega)
          rw [← x4'] at this
          cases this
        have rnh : ∀ p' q', p' < ns.length → q' < ns.length → ro p' q' ≠ h := fun p' q' hp' hq' e => by
          obtain ⟨cs, i', r', t', f1, f2, f3, f4⟩ := hh
          have x5' := x5 p' q' hp' hq'
          rw [e, f1] at x5'
          have x5' := HO.lst.inj (Option.some.inj x5')
          have : (boolsL ns.length (fB L p' q'))[0]? = some (.bl (fB L p' q' 0)) := bools_at (by omega)
          rw [← x5'] at this
          cases this
        have y4 := B2 _ _ (pnh p hp) (x4 p hp)
        have y5 := B2 _ _ (rnh p qq hp hq) (x5 p qq hp hq)
        have eb2 := B2 _ _ nbh x2
        refine ⟨_, rfl, ?_⟩
        refine ⟨_, rfl, ?_⟩
        refine ⟨_, _, 0, _, rfl, rfl, SqT.of ha3, at_of (j := 0) rfl rfl, ?_⟩
        refine ⟨_, _, _, _, rfl, rfl, SqL.of y3, at_of (j := p) rfl (refs_at hp), ?_⟩
        refine ⟨_, rfl, ?_⟩
        refine ⟨_, _, 1, _, rfl, rfl, SqT.of ha3, at_of (j := 1) rfl rfl, ?_⟩
        refine ⟨_, _, _, _, rfl, rfl, SqL.of y4, at_of (j := qq) rfl (refs_at hq), ?_⟩
        refine ⟨_, rfl, ?_⟩
        refine ⟨_, _, 2, _, rfl, rfl, SqT.of ha3, at_of (j := 2) rfl rfl, ?_⟩
        refine ⟨_, _, _, _, rfl, rfl, SqL.of y5, at_of (j := r) rfl (bools_at hrr), ?_⟩
        refine ⟨_, rfl, ?_⟩
        have nB : (!fB L p qq r) = inL L t := by rw [fB_in, ← et]
        cases hL : inL L t with
        | false =>
          refine if_fa (nB.trans hL) ⟨⟨_, _, rfl⟩, fr, us, G, by omega, ?_⟩
          rw [tk]
          refine ⟨fun u hu => ?_, fun c' hc hcL => ?_⟩
          · obtain ⟨c', hc, z'⟩ := bt.a u hu
            exact ⟨c', List.mem_append_left _ hc, z'⟩
          · rcases List.mem_append.mp hc with hc | hc
            · exact bt.b c' hc hcL
            · rw [List.mem_singleton.mp hc] at hcL
              rw [inL_iff.mpr hcL] at hL
              cases hL
        | true =>
          obtain ⟨ds, d1, d2, d3⟩ := id G.l
          refine if_tr (nB.trans hL) ⟨_, rfl, _, rfl, D, _, rfl, .inl (SqL.of d1), _, _, rfl, rfl, h, q, _, rfl, ?_, ?_, G.hh, fun v H3 v0 v1 B3 h3 => ?_⟩
          · rw [List.length_map]; omega
          · rw [List.length_map]; omega
          rw [List.length_map] at v1
          have G3 := G.step B3 h3
          have ha4 := B3 _ _ (fun e => by rw [e] at ha3; obtain ⟨cs, i', r', t', f1, _⟩ := G.hh; rw [f1] at ha3; cases ha3) ha3
          have eb3 := B3 _ _ nbh eb2
          obtain ⟨ds3, d13, d23, d33⟩ := id G3.l
          refine ⟨_, rfl, .inl ⟨rfl, _, SqL.of d13⟩, _, rfl, _, rfl, _, rfl, _, rfl, ?_⟩
          refine ⟨_, _, 0, _, rfl, rfl, SqT.of ha4, at_of (j := 0) rfl rfl, ?_⟩
          refine ⟨_, rfl, ?_⟩
          refine ⟨_, _, 1, _, rfl, rfl, SqT.of ha4, at_of (j := 1) rfl rfl, ?_⟩
          refine ⟨_, rfl, ?_⟩
          refine ⟨_, _, 2, _, rfl, rfl, SqT.of ha4, at_of (j := 2) rfl rfl, ?_⟩
          refine ⟨b, ns, p, qq, r, rfl, eb3, gb, hp, hq, hrr, fun H4 z4 S4 nz4 L4 => ?_⟩
          have G4 := G3.step (But.same S4) (G3.hh.keep S4)
          obtain ⟨qs, q1, q2, q3⟩ := L4
          have l6 : qs.length = 6 := by rw [q2]; rfl
          refine ⟨h, q, z4, _, rfl, G4.hh, hand_free G3.hh nz4, q1, by rw [List.length_map]; omega, by rw [List.length_map]; omega, fun H5 y my B5 h5 => ?_⟩
          obtain ⟨a5, ma5, rfl⟩ := List.mem_map.mp my
          obtain ⟨j5, ej5⟩ := List.getElem?_of_mem ma5
          have lj5 := (List.getElem?_eq_some_iff.mp ej5).1
          have es5 := List.getElem?_eq_getElem (l := six ns p qq r) (i := j5) (by omega)
          have m6 := List.mem_of_getElem? es5
          generalize (six ns p qq r)[j5]'(by omega) = u5 at es5 m6
          have t5 := q3 j5 a5 u5 ej5 es5
          have G5 := G4.step B5 h5
          have t5' := B5 _ _ (fun e => by rw [e] at t5; obtain ⟨cs, i', r', t', f1, _⟩ := G4.hh; rw [f1] at t5; cases t5) t5
          obtain ⟨ds5, d15, d25, d35⟩ := id G5.l
          have in5 : inR ns u5 t = true := by rw [et]; exact decide_eq_true m6
          refine ⟨D, _, v, _, rfl, rfl, d15, small1000 (by rw [List.length_map]; omega), v0, by omega, ⟨_, _, rfl⟩, fun a' o n1 n2 e => ?_, us.take v.toNat ++ [u5] ++ us.drop v.toNat, ⟨G5.B.put2 G.f, G5.hh.put G.nh.symm G.nq.symm, G.f, G.nh, G.nq, G5.l.ins d15 t5'⟩, by simp; omega, ?_⟩
          · rw [upd_ne n2]
            exact B5 _ _ n1 (S4 _ _ (B3 _ _ n1 (fr _ _ n1 n2 e)))
          · rw [tk]
            have mem : ∀ u, u ∈ us.take v.toNat ++ [u5] ++ us.drop v.toNat ↔ u ∈ us ∨ u = u5 := fun u => by
              conv => rhs; rw [← List.take_append_drop v.toNat us]
              simp only [List.mem_append, List.mem_singleton]
              constructor
              · rintro ((h | h) | h)
                · exact .inl (.inl h)
                · exact .inr h
                · exact .inl (.inr h)
              · rintro ((h | h) | h)
                · exact .inl (.inl h)
                · exact .inr h
                · exact .inl (.inr h)
            refine ⟨fun u hu => ?_, fun c' hc hcL => ?_⟩
            · rcases (mem u).mp hu with hu | rfl
              · obtain ⟨c', hc, z'⟩ := bt.a u hu
                exact ⟨c', List.mem_append_left _ hc, z'⟩
              · exact ⟨t, List.mem_append_right _ List.mem_cons_self, inL_iff.mp hL, in5⟩
            · rcases List.mem_append.mp hc with hc | hc
              · obtain ⟨u, hu, z'⟩ := bt.b c' hc hcL
                exact ⟨u, (mem u).mpr (.inl hu), z'⟩
              · rw [List.mem_singleton.mp hc]
                exact ⟨u5, (mem u5).mpr (.inr rfl), in5⟩
    · rintro σ H2 ⟨⟨v5, v6, rfl⟩, fr, us, G, ul, bt⟩
      rw [List.length_map, e2, List.take_length] at bt
      rw [List.length_map] at ul
      have u64 : us.length ≤ 64 := by
        have := List.length_filter_le (isL ns) (A3 ns.length ns.length)
        have := A3_len _ gb.hi
        omega
      obtain ⟨h1, h2⟩ := bt.end_ gb cL
      refine ⟨_, rfl, Nat.zero_le _, fun n9 hn9 => ?_⟩
      have S9 : Same H2 (upd H2 n9 (.lst [])) := new_same hn9
      have G9 := G.step (But.same S9) (G.hh.keep S9)
      obtain ⟨da, db⟩ := G9.l.data (K := K)
      refine ⟨.list (tupsD us), .list (tupsD []), da, .lst (SqL.of upd_same) .nil, db, (shaped_tupsD []), _, rfl, ?_⟩
      rw [eqv_tupL]
      generalize upd H2 n9 (.lst []) = H3 at G9
      cases us with
      | nil => exact if_fa (by simp) (iteF ⟨_, rfl, k _ D [] G9.B G9.hh G.f G9.l h1 h2⟩)
      | cons u0 us =>
        refine if_tr (by simp) ⟨_, rfl, h, q, 4, rfl, by decide, by decide, G9.hh, fun v H4 v0 v1 B4 h4 => ⟨rfl, _, rfl, ifD (fun c => ?_) (fun c => ?_)⟩⟩
        · have G4 := G9.step B4 h4
          obtain ⟨ds, d1, d2, d3⟩ := id G4.l
          cases ds with
          | nil => cases d2
          | cons d0 ds =>
            refine ⟨_, rfl, .inl ⟨rfl, _, SqL.of d1⟩, _, rfl, _, _, 0, _, rfl, rfl, SqL.of d1, at_of (j := 0) rfl rfl, D, _, _, rfl, rfl, d1, small1000 (by rw [List.length_map, d2]; omega), ?_⟩
            have LL := G4.l.push d1 (d3 0 d0 u0 rfl rfl)
            refine ⟨_, rfl, k _ D (u0 :: us ++ [u0]) (G4.B.put2 G.f) (G4.hh.put G.nh.symm G.nq.symm) G.f LL (fun u hu => ?_) ?_⟩
            · rcases List.mem_append.mp hu with hu | hu
              · exact h1 u hu
              · rw [List.mem_singleton.mp hu]; exact h1 u0 List.mem_cons_self
            · rw [← h2]
              refine brd_same fun u => ?_
              rw [List.mem_append, List.mem_singleton]
              exact ⟨fun hu => hu.elim id fun e => e ▸ List.mem_cons_self, .inl⟩
        · have G4 := G9.step B4 h4
          exact ⟨_, rfl, k _ D _ G4.B G4.hh G.f G4.l h1 h2⟩
theorem ok_Lbook {f fB fI fJ C CB CE CF : Addr} {fd fdB fdI fdJ : FuncData} (F : Fun K "_law_book" "_law_book" s_Lbook f fd) (mT : mg "Ties" = some (.ref C)) (MJ : Mk K C fJ) (FJ : FnOk P w K mg base (L2.CX P w) 4 fJ fdJ ["self", "backs"] (spTies C CF)) (bJ : Binds K fdJ ["self", "backs"] [])
    (mB : mg "Book" = some (.ref CB)) (MI : Mk K CB fI) (FI : FnOk P w K mg base (L2.CX P w) 6 fI fdI ["self", "ties", "barred"] (spBI K C CB CE)) (bI : Binds K fdI ["self", "ties", "barred"] []) (GB : Cal P w K mg base CX0 4 "_law_bars_handed" fB fdB ["_law_hand_here", "_law_world"] spBH) :
    FnOk P w K mg base CX0 8 f fd ["_law_hand_here", "_law_world"] (spLBook C CB) := by
  refine F.ok sc_Lbook (fun vs H Q E h => ?_) (fun cdv A outer s H vs Q E hr h => ?_)
  · obtain ⟨h, q, x, ns, L, rfl, _⟩ := h
    rfl
  · obtain ⟨h, q, x, ns, L, rfl, hh, ⟨b, z, po, ro, x1, x2, x345⟩, gb, cL, k⟩ := h
    have hr5 : Room 5 _ := hr.mono (by decide)
    refine ⟨_, (pss_one 
  (ps_ret (pe_make MI FI hr rfl mB bI .nil passL (pa_cons (pe_make MJ FJ hr5 rfl mT bJ .nil passL (pa_cons (pe_ix ix_tup (pv 1) pe_int (fun _ _ => rfl)) pa_nil)) (pa_cons (pcal GB hr pass0 (pa_cons (pv 0) (pa_cons (pv 1) pa_nil))) pa_nil))))), ?_⟩
    refine ⟨_, rfl, ?_⟩
    refine ⟨_, _, 0, _, rfl, rfl, SqT.of x1, at_of (j := 0) rfl rfl, ?_⟩
    refine mk_ties (s := .lst (ns.map V.int)) ⟨b, rfl, x2⟩ gb rfl rfl fun H1 t S1 nt TT => ⟨rfl, ?_⟩
    have W1 : WAt H1 x ns L := WAt.keep ⟨b, z, po, ro, x1, x2, x345⟩ S1
    refine ⟨_, rfl, _, rfl, h, q, x, ns, L, rfl, hh.keep S1, W1, gb, cL, fun H2 D us B2 h2 nD L2' ua ub => ?_⟩
    obtain ⟨uh, eh⟩ : ∃ us, H1 h = some (.lst us) := by
      obtain ⟨cs, i, r, t, e1, _⟩ := hh.keep S1
      exact ⟨_, e1⟩
    refine mk_book (LstsAt.arg L2' (TT.but eh B2) gb ua ?_)
    intro H3 x3 S3 n3 Bk
    rw [ub] at Bk
    refine ⟨rfl, k _ x3 ((But.same S1).trans (B2.trans (But.same S3))) (h2.keep S3) ?_ Bk⟩
    exact S1.free (B2.free (fun e => by rw [e] at n3; obtain ⟨cs, i, r, t, e1, _⟩ := h2; rw [e1] at n3; cases n3) n3)
end
end J

set_option Elab.async false
set_option linter.all false
set_option maxRecDepth 100000
set_option maxHeartbeats 4000000
namespace J
open PySem PySem.Spec PyProof.Rows L2
/-! ### tables that are drawn or told by a number -/
abbrev GrI (H0 H : Hp) (T : Addr) (n k : Nat) (f : Nat → Nat → Int) : Prop := Grid H0 H T n k fun a b => .int (f a b)
theorem Grid.weak {H0 H1 H : Hp} {T : Addr} {n k : Nat} {f : Nat → Nat → V} (g : Grid H0 H T n k f) (S : Same H1 H0) : Grid H1 H T n k f := by
  obtain ⟨S0, t0, gs, e, nd, hT, hg⟩ := g
  exact ⟨S.trans S0, S.free t0, gs, e, nd, hT, fun a u h => ⟨S.free (hg a u h).1, (hg a u h).2⟩⟩
theorem del_same' {H : Hp} {h : Addr} : Same (del H h) H := fun b o e => by
  by_cases q : b = h
  · subst q; rw [del_same] at e; cases e
  · rwa [del_ne q] at e
theorem ints_row {xs : List V} {n : Nat} {g : Nat → Int} (l : xs.length = n) (h : ∀ b, b < n → xs[b]? = some (.int (g b))) : xs = ((List.range n).map g).map V.int := by
  refine List.ext_getElem? fun b => ?_
  rcases Nat.lt_or_ge b n with c | c
  · rw [h b c, List.getElem?_map, List.getElem?_map, List.getElem?_range c]
    rfl
  · rw [List.getElem?_eq_none (by omega), List.getElem?_eq_none (by rw [List.length_map, List.length_map, List.length_range]; exact c)]
theorem Grid.lines {H0 H : Hp} {T : Addr} {n : Nat} {f : Nat → Nat → Int} (g : GrI H0 H T n n f) : ∃ ps, LinesAt H T ps (tabOf f n) ∧ (∀ p ∈ ps, H0 p = none) := by
  obtain ⟨S0, t0, gs, e, nd, hT, hg⟩ := g
  refine ⟨gs, ⟨hT, by rw [tabOf_len, e], fun j a ts e1 e2 => ?_⟩, fun p hp => ?_⟩
  · obtain ⟨_, aT, xs, ea, el, ef⟩ := hg j a e1
    have hj : j < n := by rw [← e]; exact (List.getElem?_eq_some_iff.mp e1).1
    rw [tabOf_at hj] at e2
    obtain rfl := Option.some.inj e2
    exact ⟨aT, by rw [ea, ints_row el ef]⟩
  · obtain ⟨a, ha⟩ := List.getElem?_of_mem hp
    exact (hg a p ha).1
/-- a table while the hand is drawn from -/
structure GrH (h q : Addr) (Hs H : Hp) (T : Addr) (n : Nat) (f : Nat → Nat → Int) : Prop where
  hs : Hand Hs h q
  hh : Hand H h q
  g : GrI (del Hs h) H T n n f
theorem GrH.but {h q : Addr} {Hs H : Hp} {T : Addr} {n : Nat} {f : Nat → Nat → Int} (G : GrH h q Hs H T n f) : But h Hs H := fun b o nb e => G.g.1 b o (by rw [del_ne nb]; exact e)
theorem GrH.ne {h q : Addr} {Hs H : Hp} {T : Addr} {n : Nat} {f : Nat → Nat → Int} (G : GrH h q Hs H T n f) (hn : 0 < n) : T ≠ h ∧ ∀ {a : Addr} {xs : List V}, H a = some (.lst xs) → (∃ v : Int, xs[0]? = some (.int v)) → a ≠ h := by
  obtain ⟨hs, ⟨cs, i, r, t, e1, _⟩, ⟨S0, t0, gs, e, nd, hT, hg⟩⟩ := G
  refine ⟨fun z => ?_, fun {a xs} ea ⟨v, ev⟩ z => ?_⟩
  · subst z
    rw [hT] at e1
    have e1 := HO.lst.inj (Option.some.inj e1)
    have q1 : (gs.map V.ref)[1]? = ([V.ref q, V.int i, V.int r, V.int t] : List V)[1]? := by rw [e1]
    rw [List.getElem?_map] at q1
    cases c : gs[1]? with
    | none => rw [c] at q1; cases q1
    | some u => rw [c] at q1; cases q1
  · subst z
    rw [ea] at e1
    have e1 := HO.lst.inj (Option.some.inj e1)
    rw [e1] at ev
    cases ev
theorem GrH.nq {h q : Addr} {Hs H : Hp} {T : Addr} {n : Nat} {f : Nat → Nat → Int} (G : GrH h q Hs H T n f) {a : Addr} (e : (del Hs h) a = none) : a ≠ q := fun z => by
  obtain ⟨⟨cs, i, r, t, e1, e2, n1, _⟩, _⟩ := G
  rw [z, del_ne n1, e2] at e
  cases e
theorem GrH.step {h q : Addr} {Hs H H' : Hp} {T : Addr} {n : Nat} {f : Nat → Nat → Int} (G : GrH h q Hs H T n f) (hn : 0 < n) (B : But h H H') (hh : Hand H' h q) : GrH h q Hs H' T n f := by
  obtain ⟨nT, nr⟩ := G.ne hn
  refine ⟨G.hs, hh, ?_⟩
  obtain ⟨S0, t0, gs, e, nd, hT, hg⟩ := G.g
  refine ⟨fun b o eb => B _ _ (fun z => by subst z; rw [del_same] at eb; cases eb) (S0 _ _ eb), t0, gs, e, nd, B _ _ nT hT, fun a u ha => ?_⟩
  obtain ⟨u0, uT, xs, ex, xl, xf⟩ := hg a u ha
  exact ⟨u0, uT, xs, B _ _ (nr ex ⟨_, xf 0 hn⟩) ex, xl, xf⟩
theorem GrH.at_ {h q : Addr} {Hs H : Hp} {T : Addr} {n j : Nat} {f : Nat → Nat → Int} (G : GrH h q Hs H T n f) (hj : j < n) : ∃ (a : Addr) (xs L : List V), H T = some (.lst L) ∧ L[j]? = some (.ref a) ∧ H a = some (.lst xs) ∧ xs.length = n ∧ ∀ (b : Nat) (v : Int), b < n → GrH h q Hs (upd H a (.lst (xs.set b (.int v)))) T n (fun a' b' => if a' = j ∧ b' = b then v else f a' b') := by
  have hn : 0 < n := by omega
  obtain ⟨nT, nr⟩ := G.ne hn
  obtain ⟨a, xs, L, e1, e2, e3, e4, e5, e6⟩ := G.g.at_ hj
  have nah : a ≠ h := nr e3 ⟨_, e5 0 hn⟩
  have naq : a ≠ q := by
    obtain ⟨S0, t0, gs, e, nd, hT, hg⟩ := G.g
    rw [hT] at e1
    have e1 := HO.lst.inj (Option.some.inj e1)
    rw [← e1, List.getElem?_map] at e2
    cases c : gs[j]? with
    | none => rw [c] at e2; cases e2
    | some u =>
      rw [c] at e2
      have e2 := V.ref.inj (Option.some.inj e2)
      subst e2
      exact G.nq (hg j u c).1
  refine ⟨a, xs, L, e1, e2, e3, e4, fun b v hb => ⟨G.hs, G.hh.put nah.symm naq.symm, ?_⟩⟩
  refine (e6 b (.int v) hb).congr fun a' b' _ _ => ?_
  by_cases c : a' = j ∧ b' = b
  · rw [if_pos c]
    show _ = V.int (if a' = j ∧ b' = b then v else f a' b')
    rw [if_pos c]
  · rw [if_neg c]
    show _ = V.int (if a' = j ∧ b' = b then v else f a' b')
    rw [if_neg c]
/-- what is told of the cells below the diagonal, as far as row i, place j -/
def Upto (ns : List Int) (f : Nat → Nat → Int) (i j : Nat) : Prop := ∀ a b, b < a → (a < i ∨ (a = i ∧ b < j)) → InT ns (f a b) ∧ f b a = bk ns (f a b)
theorem Upto.cells {ns : List Int} {f : Nat → Nat → Int} {n : Nat} (g : GoodB ns) (u : Upto ns f n 0) : CellsAt ns f n := fun a b ha hb ne => by
  rcases Nat.lt_or_gt_of_ne ne with c | c
  · obtain ⟨h1, h2⟩ := u b a c (.inl hb)
    rw [h2]
    exact ⟨bk_in g h1, (bk_bk g h1).symm⟩
  · exact u a b c (.inl ha)
theorem Upto.set {ns : List Int} {f : Nat → Nat → Int} {i j : Nat} {v : Int} (u : Upto ns f i j) (ji : j < i) (hv : InT ns v) : Upto ns (fun a b => if a = j ∧ b = i then bk ns v else if a = i ∧ b = j then v else f a b) i (j + 1) := fun a b ba c => by
  dsimp only
  by_cases e : a = i ∧ b = j
  · rw [if_neg (by omega), if_pos e, if_pos (by omega)]
    exact ⟨hv, rfl⟩
  · rw [if_neg (by omega), if_neg e, if_neg (by omega), if_neg (by omega)]
    exact u a b ba (by omega)
abbrev s_Ldrawn_table : Stmt := top 57
theorem sc_Ldrawn_table : FnScope ["_law_hand_here", "_law_backs_here", "_law_size", "_law_table", "_law_i", "_law_j", "_law_tie", "_law_line"] ["_law_hand_here", "_law_backs_here", "_law_size"] (defScope s_Ldrawn_table) := ⟨rfl, rfl, rfl, by decide +kernel, rfl, by decide +kernel, by decide +kernel⟩
def spDT : Sp := fun vs H Q _ => ∃ (h q b : Addr) (ns : List Int) (n : Nat), vs = [.ref h, .ref b, .int (n : Nat)] ∧ Hand H h q ∧ H b = some (.lst (ns.map V.int)) ∧ GoodB ns ∧ 0 < n ∧ n ≤ 60 ∧ ∀ (H' : Hp) (T : Addr) (ps : List Addr) (f : Nat → Nat → Int), But h H H' → Hand H' h q → H T = none → LinesAt H' T ps (tabOf f n) → CellsAt ns f n → Q (.ref T) H'
theorem nbh {H : Hp} {h q b : Addr} {ns : List Int} (hh : Hand H h q) (gb : GoodB ns) (eb : H b = some (.lst (ns.map V.int))) : b ≠ h := by
  intro e
  obtain ⟨cs, i, r, t, f1, _⟩ := hh
  rw [e, f1] at eb
  have eb := HO.lst.inj (Option.some.inj eb)
  have := gb.lo
  cases ns with
  | nil => cases eb
  | cons m ms => rw [List.map_cons] at eb; injection eb with eb _; cases eb
section
variable {P : Program} {w : World} {K : PySem.W.Frag} {mg : Str → Option Value} {base : Heap}
theorem ok_Ldrawn_table {f fD : Addr} {fd fdD : FuncData} (F : Fun K "_law_drawn_table" "_law_drawn_table" s_Ldrawn_table f fd) (nl : mg "len" = none) (nr : mg "range" = none) (GD : Cal P w K mg base CX0 2 "_law_draw" fD fdD ["_law_hand_here", "_law_many"] spDraw) :
    FnOk P w K mg base CX0 3 f fd ["_law_hand_here", "_law_backs_here", "_law_size"] spDT := by
  refine F.ok sc_Ldrawn_table (fun vs H Q E h => ?_) (fun cdv A outer s H vs Q E hr h => ?_)
  · obtain ⟨h, q, b, ns, n, rfl, _⟩ := h
    rfl
  · obtain ⟨h, q, b, ns, n, rfl, hh, eb, gb, n0, n60, k⟩ := h
    refine ⟨_, (pss_cons 
  (ps_setLc (i := 3) (own := [("_law_i", 4)]) (g := gName 4) rfl sc_Ldrawn_table.nd rfl rfl (sw_true rfl rfl rfl (by decide +kernel)) (pi_range1 (by rfl) nr (pa_cons (pv 2) pa_nil)) (blkOk_by (own := [("_law_i", 4)]) (N := ["_law_hand_here", "_law_backs_here", "_law_size", "_law_table", "_law_i", "_law_j", "_law_tie", "_law_line"]) (sc := defScope s_Ldrawn_table) (by decide +kernel)) (fun _ _ _ _ _ => pg_name (i := 4) sc_Ldrawn_table.nd rfl (Or.inl rfl)) (fun _ _ _ _ _ => pts_nil) (fun _ _ _ _ _ => (pe_lc (own := [("_law_j", 5)]) (g := gName 5) (by rfl) sc_Ldrawn_table.nd (pi_range1 (by rfl) nr (pa_cons (pv 2) pa_nil)) (blkOk_by (own := [("_law_j", 5)]) (N := ["_law_hand_here", "_law_backs_here", "_law_size", "_law_table", "_law_i", "_law_j", "_law_tie", "_law_line"]) (by rfl)) (fun _ _ _ _ _ => pg_name (i := 5) sc_Ldrawn_table.nd rfl (Or.inl rfl)) (fun _ _ _ _ _ => pts_nil) (fun _ _ _ _ _ => (pe_un un_neg pe_int))))) (pss_cons 
  (ps_for PassesOwn.never rfl (pi_range1 (by rfl) nr (pa_cons (pv 2) pa_nil)) (pg_name (i := 4) sc_Ldrawn_table.nd rfl (Or.inl rfl)) (pss_one 
    (ps_for PassesOwn.never rfl (pi_range1 (by rfl) nr (pa_cons (pv 4) pa_nil)) (pg_name (i := 5) sc_Ldrawn_table.nd rfl (Or.inl rfl)) (pss_cons 
      (ps_set (i := 6) sc_Ldrawn_table.nd rfl (Or.inl rfl) (pcal GD hr pass0 (pa_cons (pv 0) (pa_cons (pe_callB call_len_seq (by rfl) nl PySem.boot_len (pa_cons (pv 1) pa_nil)) pa_nil)))) (pss_cons 
      (ps_set (i := 7) sc_Ldrawn_table.nd rfl (Or.inl rfl) (pe_ix ix_list (pv 3) (pv 4) (fun _ _ => rfl))) (pss_cons 
      (ps_asg (pv 6) (pg_sub (pv 7) (pv 5) set_list)) (pss_cons 
      (ps_set (i := 7) sc_Ldrawn_table.nd rfl (Or.inl rfl) (pe_ix ix_list (pv 3) (pv 5) (fun _ _ => rfl))) (pss_one 
      (ps_asg (pe_ix ix_list (pv 1) (pv 6) (fun _ _ => rfl)) (pg_sub (pv 7) (pv 4) set_list)))))))))) (pss_one 
  (ps_ret (pv 3))))), ?_⟩
    have lm : (ns.map V.int).length = ns.length := List.length_map _
    have npos : 0 < ns.length := by have := gb.lo; omega
    have nb := nbh hh gb eb
    refine ⟨_, rfl, (n : Nat), rfl, by omega, by omega, fun T hT => ?_⟩
    refine lc_range (lo := 0) (n := n) (fun i H2 => GrI H H2 T n i fun _ _ => -1) ⟨new_same hT, hT, [], rfl, List.nodup_nil, upd_same, fun a g e => by cases e⟩ ?_ ?_
    · rintro i H2 hi G
      refine ⟨rfl, yesT ?_⟩
      refine ⟨_, rfl, (n : Nat), rfl, by omega, by omega, fun D hD => ?_⟩
      refine lc_range (lo := 0) (n := n) (fun j H3 => Same H2 H3 ∧ H2 D = none ∧ H3 D = some (.lst ((List.range j).map fun _ => .int (-1)))) ⟨new_same hD, hD, upd_same⟩ ?_ ?_
      · rintro j H3 hj ⟨S3, n3, e3⟩
        refine ⟨rfl, yesT ⟨_, rfl, _, e3, ?_, fun b o e => ?_, n3, ?_⟩⟩
        · rw [List.length_map, List.length_range]
          exact small1000 (by omega)
        · rw [upd_ne (ne_of_none e n3)]
          exact S3 _ _ e
        · rw [upd_same, List.range_succ, List.map_append]
          rfl
      · rintro H3 ⟨S3, n3, e3⟩
        obtain ⟨acc, q1, q2, q3⟩ := G.push n3 S3 e3 (by rw [List.length_map, List.length_range]) fun b hb => by rw [List.getElem?_map, List.getElem?_range hb]; rfl
        exact ⟨acc, q1, small1000 (by omega), q3⟩
    rintro H2 G2
    have GH2 : GrH h q H H2 T n fun _ _ => -1 := ⟨hh, hh.keep G2.1, G2.weak del_same'⟩
    refine ⟨_, rfl, (n : Nat), rfl, by omega, by omega, for_range (lo := 0) (n := n) (fun i σ H3 => (∃ v4 v5 v6 v7 : Option V, σ = [some (.ref h), some (.ref b), some (.int (n : Nat)), some (.ref T), v4, v5, v6, v7]) ∧ ∃ f, GrH h q H H3 T n f ∧ Upto ns f i 0)
      ⟨⟨_, _, _, _, rfl⟩, _, GH2, fun a b h1 h2 => by omega⟩ ?_ ?_⟩
    · rintro i σ H3 hi ⟨⟨v4, v5, v6, v7, rfl⟩, f, G3, u3⟩
      refine ⟨_, rfl, _, rfl, by omega, by omega, for_range (lo := 0) (n := ((0 : Int) + (i : Nat)).toNat) (fun j σ H4 => (∃ v5 v6 v7 : Option V, σ = [some (.ref h), some (.ref b), some (.int (n : Nat)), some (.ref T), some (.int (0 + (i : Nat))), v5, v6, v7]) ∧ ∃ f, GrH h q H H4 T n f ∧ Upto ns f i j)
        ⟨⟨_, _, _, rfl⟩, f, G3, u3⟩ ?_ ?_⟩
      · rintro j σ H4 hj ⟨⟨v5, v6, v7, rfl⟩, f, G4, u4⟩
        replace hj : j < i := by omega
        have eb4 := G4.but _ _ nb eb
        refine ⟨_, rfl, _, rfl, b, _, rfl, .inl (SqL.of eb4), h, q, _, rfl, ?_, ?_, G4.hh, fun v H5 v0 v1 B5 h5 => ?_⟩
        · rw [lm]; omega
        · rw [lm]; have := gb.hi; omega
        rw [lm] at v1
        have G5 := G4.step n0 B5 h5
        have iv : InT ns v := ⟨v0, v1⟩
        obtain ⟨a, xs, L, e1, e2, e3, e4, e5⟩ := G5.at_ hi
        have G6 := e5 j v (by omega)
        obtain ⟨a', xs', L', e1', e2', e3', e4', e5'⟩ := G6.at_ (j := j) (by omega)
        have G7 := e5' i (bk ns v) hi
        have eb6 := G6.but _ _ nb eb
        refine ⟨_, rfl, _, rfl, _, _, _, _, rfl, rfl, SqL.of e1, at_of (j := i) (by omega) e2, ?_⟩
        refine ⟨_, rfl, _, rfl, _, rfl, a, xs, _, j, rfl, rfl, e3, (by rw [ixN_at (by omega) (by rw [e4]; omega)]; congr 1; omega), ?_⟩
        refine ⟨_, rfl, _, rfl, _, _, _, _, rfl, rfl, SqL.of e1', at_of (j := j) (by omega) e2', ?_⟩
        obtain ⟨ve, vl⟩ := in_nat iv
        refine ⟨_, rfl, _, rfl, _, _, _, _, rfl, rfl, SqL.of eb6, at_of (j := v.toNat) ve (by rw [bk_at vl, ← ve]), ?_⟩
        refine ⟨_, rfl, _, rfl, a', xs', _, i, rfl, rfl, e3', (by rw [ixN_at (by omega) (by rw [e4']; omega)]; congr 1; omega), ?_⟩
        refine ⟨⟨_, _, _, rfl⟩, _, G7, u4.set hj iv⟩
      · rintro σ H4 ⟨⟨v5, v6, v7, rfl⟩, f, G4, u4⟩
        exact ⟨⟨_, _, _, _, rfl⟩, f, G4, fun a b ba c => u4 a b ba (by omega)⟩
    · rintro σ H3 ⟨⟨v4, v5, v6, v7, rfl⟩, f, G3, u3⟩
      obtain ⟨ps, l1, _⟩ := G3.g.lines
      exact ⟨_, rfl, k _ T ps f G3.but G3.hh hT l1 (u3.cells gb)⟩
end
end J

set_option Elab.async false
set_option linter.all false
set_option maxRecDepth 100000
set_option maxHeartbeats 4000000
namespace J
open PySem PySem.Spec PyProof.Rows L2
/-! ### _law_fits, _law_flat -/
def NoK (L : List (List Int)) (f : Nat → Nat → Int) (n : Nat) : Prop := ∀ i j k, k < j → j < i → i < n → ¬ B3 L f i j k
theorem ite_vint {c : Prop} [Decidable c] {a b : Int} : (if c then V.int a else V.int b) = V.int (if c then a else b) := by split <;> rfl
theorem nat_bk {ns : List Int} {p : Nat} (h : p < ns.length) : bk ns (p : Int) = bk ns p := rfl
/-- three guests seen from the other end -/
theorem b3_turn {ns : List Int} {L : List (List Int)} {f : Nat → Nat → Int} {n i j k : Nat} (g : GoodB ns) (cL : Cl ns L) (ce : CellsAt ns f n) (hi : i < n) (hj : j < n) (hk : k < n) (ij : i ≠ j) (jk : j ≠ k) (ik : i ≠ k) : B3 L f i j k ↔ B3 L f k j i := by
  obtain ⟨c1, d1⟩ := ce i j hi hj ij
  obtain ⟨c2, d2⟩ := ce j k hj hk jk
  obtain ⟨c3, d3⟩ := ce i k hi hk ik
  unfold B3
  rw [d2, d1, d3]
  refine (cL.two g (in_A3 c1 c2 c3) ?_).symm
  exact decide_eq_true (by simp [six])
theorem noK_noB {ns : List Int} {L : List (List Int)} {f : Nat → Nat → Int} {n : Nat} (g : GoodB ns) (cL : Cl ns L) (ce : CellsAt ns f n) : NoK L f n ↔ NoB L f n :=
  ⟨fun h i j k a b c q => h k j i a b c ((b3_turn g cL ce (by omega) (by omega) c (by omega) (by omega) (by omega)).mp q), fun h i j k a b c q => h k j i a b c ((b3_turn g cL ce c (by omega) (by omega) (by omega) (by omega) (by omega)).mp q)⟩
abbrev s_Lfits : Stmt := top 50
theorem sc_Lfits : FnScope ["_law_world", "_law_table", "_law_backs_here", "_law_let_here", "_law_i", "_law_j", "_law_k"] ["_law_world", "_law_table"] (defScope s_Lfits) := ⟨rfl, rfl, rfl, by decide +kernel, rfl, by decide +kernel, by decide +kernel⟩
def spFits : Sp := fun vs H Q _ => ∃ (x T : Addr) (ns : List Int) (L : List (List Int)) (ps : List Addr) (f : Nat → Nat → Int) (n : Nat), vs = [.ref x, .ref T] ∧ WAt H x ns L ∧ LinesAt H T ps (tabOf f n) ∧ n ≤ 60 ∧ GoodB ns ∧ CellsAt ns f n ∧ ∀ b : Bool, (b = true ↔ NoK L f n) → Q (.bl b) H
theorem lines_at {H : Hp} {T : Addr} {ps : List Addr} {f : Nat → Nat → Int} {n a : Nat} (l : LinesAt H T ps (tabOf f n)) (ha : a < n) : ∃ u : Addr, (ps.map V.ref)[a]? = some (.ref u) ∧ H u = some (.lst (((List.range n).map (f a)).map V.int)) := by
  obtain ⟨h1, h2, h3⟩ := l
  rw [tabOf_len] at h2
  have e := List.getElem?_eq_getElem (l := ps) (i := a) (by omega)
  exact ⟨_, ref_at e, (h3 a _ _ e (tabOf_at ha)).2⟩
theorem row_at {f : Nat → Nat → Int} {n a b : Nat} (hb : b < n) : (((List.range n).map (f a)).map V.int)[b]? = some (.int (f a b)) := by
  rw [List.getElem?_map, List.getElem?_map, List.getElem?_range hb]
  rfl
abbrev s_Lflat : Stmt := top 56
theorem sc_Lflat : FnScope ["_law_backs_here", "_law_number", "_law_size", "_law_many", "_law_table", "_law_rest", "_law_i", "_law_j", "_law_line"] ["_law_backs_here", "_law_number", "_law_size"] (defScope s_Lflat) := ⟨rfl, rfl, rfl, by decide +kernel, rfl, by decide +kernel, by decide +kernel⟩
def rN (m : Int) (N : Int) : Nat → Int
  | 0 => N
  | s + 1 => rN m N s / m
theorem rN_pos {m N : Int} (hm : 0 < m) (hN : 0 ≤ N) : ∀ s, 0 ≤ rN m N s
  | 0 => hN
  | s + 1 => Int.ediv_nonneg (rN_pos hm hN s) (by omega)
structure Fl3 (ns : List Int) (m N : Int) (s : Nat) (f : Nat → Nat → Int) (rest : Int) : Prop where
  r : rest = rN m N s
  c0 : 1 ≤ s → f 2 1 = rN m N 0 % m ∧ f 1 2 = bk ns (f 2 1)
  c1 : 2 ≤ s → f 2 0 = rN m N 1 % m ∧ f 0 2 = bk ns (f 2 0)
  c2 : 3 ≤ s → f 1 0 = rN m N 2 % m ∧ f 0 1 = bk ns (f 1 0)
theorem Fl3.step {ns : List Int} {m N : Int} {s i j : Nat} {f : Nat → Nat → Int} {rest : Int} (h : Fl3 ns m N s f rest) (c : (s = 0 ∧ i = 2 ∧ j = 1) ∨ (s = 1 ∧ i = 2 ∧ j = 0) ∨ (s = 2 ∧ i = 1 ∧ j = 0)) :
    Fl3 ns m N (s + 1) (fun a b => if a = j ∧ b = i then bk ns (rest % m) else if a = i ∧ b = j then rest % m else f a b) (rest / m) := by
  obtain ⟨r, c0, c1, c2⟩ := h
  rcases c with ⟨rfl, rfl, rfl⟩ | ⟨rfl, rfl, rfl⟩ | ⟨rfl, rfl, rfl⟩
  · refine ⟨by rw [r]; rfl, fun _ => ?_, fun z => by omega, fun z => by omega⟩
    rw [r]
    simp
  · refine ⟨by rw [r]; rfl, fun _ => ?_, fun _ => ?_, fun z => by omega⟩
    · simpa using c0 (by omega)
    · rw [r]
      simp
  · refine ⟨by rw [r]; rfl, fun _ => ?_, fun _ => ?_, fun _ => ?_⟩
    · simpa using c0 (by omega)
    · simpa using c1 (by omega)
    · rw [r]
      simp
def spFlat : Sp := fun vs H Q _ => ∃ (b : Addr) (ns : List Int) (N : Nat), vs = [.ref b, .int (N : Nat), .int 3] ∧ H b = some (.lst (ns.map V.int)) ∧ GoodB ns ∧ N < 1000 ∧ ∀ (H' : Hp) (T : Addr) (ps : List Addr) (f : Nat → Nat → Int), Same H H' → H T = none → LinesAt H' T ps (tabOf f 3) → CellsAt ns f 3 →
  f 2 1 = (N : Int) % (ns.length : Nat) → f 2 0 = (N : Int) / (ns.length : Nat) % (ns.length : Nat) → f 1 0 = (N : Int) / (ns.length : Nat) / (ns.length : Nat) % (ns.length : Nat) → Q (.ref T) H'
section
variable {P : Program} {w : World} {K : PySem.W.Frag} {mg : Str → Option Value} {base : Heap}
theorem ok_Lfits {fa : Addr} {fd : FuncData} (F : Fun K "_law_fits" "_law_fits" s_Lfits fa fd) (nl : mg "len" = none) (nr : mg "range" = none) : FnOk P w K mg base CX0 1 fa fd ["_law_world", "_law_table"] spFits := by
  refine F.ok sc_Lfits (fun vs H Q E h => ?_) (fun cdv A outer s H vs Q E hr h => ?_)
  · obtain ⟨x, T, ns, L, ps, f, n, rfl, _⟩ := h
    rfl
  · obtain ⟨x, T, ns, L, ps, f, n, rfl, ⟨b, z, po, ro, x1, x2, x3, x4, x5⟩, lT, n60, gb, ce, k⟩ := h
    refine ⟨_, (pss_cons 
  (ps_asg (pv 0) (pg_tup (by rfl) (pgs_cons (pg_name (i := 2) sc_Lfits.nd rfl (Or.inl rfl)) (pgs_cons (pg_name (i := 3) sc_Lfits.nd rfl (Or.inl rfl)) pgs_nil)))) (pss_cons 
  (ps_for PassesOwn.never rfl (pi_range1 (by rfl) nr (pa_cons (pe_callB call_len_seq (by rfl) nl PySem.boot_len (pa_cons (pv 1) pa_nil)) pa_nil)) (pg_name (i := 4) sc_Lfits.nd rfl (Or.inl rfl)) (pss_one 
    (ps_for PassesOwn.never rfl (pi_range1 (by rfl) nr (pa_cons (pv 4) pa_nil)) (pg_name (i := 5) sc_Lfits.nd rfl (Or.inl rfl)) (pss_cons 
      (ps_if (pt_cmpR op_ne (pe_ix ix_list (pe_ix ix_list (pv 1) (pv 5) (fun _ _ => rfl)) (pv 4) (fun _ _ => rfl)) (pe_ix ix_list (pv 2) (pe_ix ix_list (pe_ix ix_list (pv 1) (pv 4) (fun _ _ => rfl)) (pv 5) (fun _ _ => rfl)) (fun _ _ => rfl)) (nomark _)) (pss_one 
        (ps_ret pe_bl)) pss_nil) (pss_one 
      (ps_for PassesOwn.never rfl (pi_range1 (by rfl) nr (pa_cons (pv 5) pa_nil)) (pg_name (i := 6) sc_Lfits.nd rfl (Or.inl rfl)) (pss_one 
        (ps_if (pt_not (pt_val (pe_ix ix_list (pe_ix ix_list (pe_ix ix_list (pv 3) (pe_ix ix_list (pe_ix ix_list (pv 1) (pv 4) (fun _ _ => rfl)) (pv 5) (fun _ _ => rfl)) (fun _ _ => rfl)) (pe_ix ix_list (pe_ix ix_list (pv 1) (pv 5) (fun _ _ => rfl)) (pv 6) (fun _ _ => rfl)) (fun _ _ => rfl)) (pe_ix ix_list (pe_ix ix_list (pv 1) (pv 4) (fun _ _ => rfl)) (pv 6) (fun _ _ => rfl)) (fun _ _ => rfl)))) (pss_one 
          (ps_ret pe_bl)) pss_nil)))))))) (pss_one 
  (ps_ret pe_bl)))), ?_⟩
    obtain ⟨H0, eH⟩ : ∃ H0, H0 = H := ⟨_, rfl⟩
    subst eH
    have pl := lT.2.1
    rw [tabOf_len] at pl
    have lp : (ps.map V.ref).length = n := by rw [List.length_map, pl]
    have eT := lT.1
    refine ⟨_, rfl, x, _, rfl, SqT.of x1, rfl, _, _, rfl, _, _, rfl, rfl, ?_⟩
    refine ⟨_, rfl, T, _, rfl, .inl (SqL.of eT), ?_⟩
    rw [lp]
    refine ⟨(n : Nat), rfl, by omega, by omega, for_range (lo := 0) (n := n) (fun i σ H' => H0 = H' ∧ (∃ v4 v5 v6 : Option V, σ = [some (.ref x), some (.ref T), some (.ref b), some (.ref z), v4, v5, v6]) ∧ ∀ a c d, a < i → d < c → c < a → ¬ B3 L f a c d)
      ⟨rfl, ⟨_, _, _, rfl⟩, fun a c d h => by omega⟩ ?_ ?_⟩
    · rintro i σ H' hi ⟨rfl, ⟨v4, v5, v6, rfl⟩, no1⟩
      obtain ⟨ui, hui, eui⟩ := lines_at lT hi
      refine ⟨_, rfl, _, rfl, by omega, by omega, for_range (lo := 0) (n := ((0 : Int) + (i : Nat)).toNat) (fun j σ H' => H0 = H' ∧ (∃ v5 v6 : Option V, σ = [some (.ref x), some (.ref T), some (.ref b), some (.ref z), some (.int (0 + (i : Nat))), v5, v6]) ∧ ∀ c d, c < j → d < c → ¬ B3 L f i c d)
        ⟨rfl, ⟨_, _, rfl⟩, fun c d h => by omega⟩ ?_ ?_⟩
      · rintro j σ H' hj ⟨rfl, ⟨v5, v6, rfl⟩, no2⟩
        replace hj : j < i := by omega
        obtain ⟨uj, huj, euj⟩ := lines_at (a := j) lT (by omega)
        obtain ⟨cij, dij⟩ := ce i j hi (by omega) (by omega)
        obtain ⟨pe, pll⟩ := in_nat cij
        refine ⟨_, rfl, _, rfl, _, _, _, _, rfl, rfl, SqL.of eT, at_of (j := j) (by omega) huj, ?_⟩
        refine ⟨_, rfl, _, _, _, _, rfl, rfl, SqL.of euj, at_of (j := i) (by omega) (row_at hi), ?_⟩
        refine ⟨_, rfl, _, rfl, _, rfl, _, _, _, _, rfl, rfl, SqL.of eT, at_of (j := i) (by omega) hui, ?_⟩
        refine ⟨_, rfl, _, _, _, _, rfl, rfl, SqL.of eui, at_of (j := j) (by omega) (row_at (by omega)), ?_⟩
        refine ⟨_, _, _, _, rfl, rfl, SqL.of x2, at_of (j := (f i j).toNat) pe (bk_at pll), ?_⟩
        rw [← pe]
        refine ⟨rfl, _, rfl, iteNS (by rw [dij]) ?_⟩
        refine ⟨_, rfl, _, rfl, by omega, by omega, for_range (lo := 0) (n := ((0 : Int) + (j : Nat)).toNat) (fun k σ H' => H0 = H' ∧ (∃ v6 : Option V, σ = [some (.ref x), some (.ref T), some (.ref b), some (.ref z), some (.int (0 + (i : Nat))), some (.int (0 + (j : Nat))), v6]) ∧ ∀ d, d < k → ¬ B3 L f i j d)
          ⟨rfl, ⟨_, rfl⟩, fun d h => by omega⟩ ?_ ?_⟩
        · rintro d σ H' hd ⟨rfl, ⟨v6, rfl⟩, no3⟩
          replace hd : d < j := by omega
          obtain ⟨cjd, _⟩ := ce j d (by omega) (by omega) (by omega)
          obtain ⟨cid, _⟩ := ce i d hi (by omega) (by omega)
          obtain ⟨qe, ql⟩ := in_nat cjd
          obtain ⟨re, rl⟩ := in_nat cid
          refine ⟨_, rfl, _, rfl, _, rfl, _, _, _, _, rfl, rfl, SqL.of eT, at_of (j := i) (by omega) hui, ?_⟩
          refine ⟨_, rfl, _, _, _, _, rfl, rfl, SqL.of eui, at_of (j := j) (by omega) (row_at (by omega)), ?_⟩
          refine ⟨_, _, _, _, rfl, rfl, SqL.of x3, at_of (j := (f i j).toNat) pe (refs_at pll), ?_⟩
          refine ⟨_, rfl, _, rfl, _, _, _, _, rfl, rfl, SqL.of eT, at_of (j := j) (by omega) huj, ?_⟩
          refine ⟨_, rfl, _, _, _, _, rfl, rfl, SqL.of euj, at_of (j := d) (by omega) (row_at (by omega)), ?_⟩
          refine ⟨_, _, _, _, rfl, rfl, SqL.of (x4 _ pll), at_of (j := (f j d).toNat) qe (refs_at ql), ?_⟩
          refine ⟨_, rfl, _, rfl, _, _, _, _, rfl, rfl, SqL.of eT, at_of (j := i) (by omega) hui, ?_⟩
          refine ⟨_, rfl, _, _, _, _, rfl, rfl, SqL.of eui, at_of (j := d) (by omega) (row_at (by omega)), ?_⟩
          refine ⟨_, _, _, _, rfl, rfl, SqL.of (x5 _ _ pll ql), at_of (j := (f i d).toNat) re (bools_at rl), ?_⟩
          have eb : (!fB L (f i j).toNat (f j d).toNat (f i d).toNat) = true ↔ B3 L f i j d := by
            rw [fB_in, ← pe, ← qe, ← re]
            exact inL_iff
          refine ⟨_, rfl, ?_⟩
          by_cases c : B3 L f i j d
          · refine if_tr (eb.mpr c) (k false ⟨fun q => (by cases q), fun q => absurd c (q i j d hd hj hi)⟩)
          · refine if_fa (Bool.eq_false_iff.mpr fun q => c (eb.mp q)) ⟨rfl, ⟨_, rfl⟩, fun d' h => ?_⟩
            rcases Nat.lt_or_ge d' d with q | q
            · exact no3 d' q
            · obtain rfl : d' = d := by omega
              exact c
        · rintro σ H' ⟨rfl, ⟨v6, rfl⟩, no3⟩
          refine ⟨rfl, ⟨_, _, rfl⟩, fun c d h1 h2 => ?_⟩
          rcases Nat.lt_or_ge c j with q | q
          · exact no2 c d q h2
          · obtain rfl : c = j := by omega
            exact no3 d (by omega)
      · rintro σ H' ⟨rfl, ⟨v5, v6, rfl⟩, no2⟩
        refine ⟨rfl, ⟨_, _, _, rfl⟩, fun a c d h1 h2 h3 => ?_⟩
        rcases Nat.lt_or_ge a i with q | q
        · exact no1 a c d q h2 h3
        · obtain rfl : a = i := by omega
          exact no2 c d (by omega) h2
    · rintro σ H' ⟨rfl, ⟨v4, v5, v6, rfl⟩, no1⟩
      exact k true ⟨fun _ i j d h1 h2 h3 => no1 i j d h3 h1 h2, fun _ => rfl⟩
theorem ok_Lflat {fa : Addr} {fd : FuncData} (F : Fun K "_law_flat" "_law_flat" s_Lflat fa fd) (nl : mg "len" = none) (nr : mg "range" = none) (nv : mg "reversed" = none) : FnOk P w K mg base CX0 1 fa fd ["_law_backs_here", "_law_number", "_law_size"] spFlat := by
  refine F.ok sc_Lflat (fun vs H Q E h => ?_) (fun cdv A outer s H vs Q E hr h => ?_)
  · obtain ⟨b, ns, N, rfl, _⟩ := h
    rfl
  · obtain ⟨b, ns, N, rfl, eb, gb, hN, k⟩ := h
    refine ⟨_, (pss_cons 
  (ps_set (i := 3) sc_Lflat.nd rfl (Or.inl rfl) (pe_callB call_len_seq (by rfl) nl PySem.boot_len (pa_cons (pv 0) pa_nil))) (pss_cons 
  (ps_setLc (i := 4) (own := [("_law_i", 6)]) (g := gName 6) rfl sc_Lflat.nd rfl rfl (sw_true rfl rfl rfl (by decide +kernel)) (pi_range1 (by rfl) nr (pa_cons (pv 2) pa_nil)) (blkOk_by (own := [("_law_i", 6)]) (N := ["_law_backs_here", "_law_number", "_law_size", "_law_many", "_law_table", "_law_rest", "_law_i", "_law_j", "_law_line"]) (sc := defScope s_Lflat) (by decide +kernel)) (fun _ _ _ _ _ => pg_name (i := 6) sc_Lflat.nd rfl (Or.inl rfl)) (fun _ _ _ _ _ => pts_nil) (fun _ _ _ _ _ => (pe_lc (own := [("_law_j", 7)]) (g := gName 7) (by rfl) sc_Lflat.nd (pi_range1 (by rfl) nr (pa_cons (pv 2) pa_nil)) (blkOk_by (own := [("_law_j", 7)]) (N := ["_law_backs_here", "_law_number", "_law_size", "_law_many", "_law_table", "_law_rest", "_law_i", "_law_j", "_law_line"]) (by rfl)) (fun _ _ _ _ _ => pg_name (i := 7) sc_Lflat.nd rfl (Or.inl rfl)) (fun _ _ _ _ _ => pts_nil) (fun _ _ _ _ _ => (pe_un un_neg pe_int))))) (pss_cons 
  (ps_set (i := 5) sc_Lflat.nd rfl (Or.inl rfl) (pv 1)) (pss_cons 
  (ps_for PassesOwn.never rfl (pi_revR (by rfl) nv (prg_1 (by rfl) nr (pv 2))) (pg_name (i := 6) sc_Lflat.nd rfl (Or.inl rfl)) (pss_one 
    (ps_for PassesOwn.never rfl (pi_revR (by rfl) nv (prg_1 (by rfl) nr (pv 6))) (pg_name (i := 7) sc_Lflat.nd rfl (Or.inl rfl)) (pss_cons 
      (ps_set (i := 8) sc_Lflat.nd rfl (Or.inl rfl) (pe_ix ix_list (pv 4) (pv 6) (fun _ _ => rfl))) (pss_cons 
      (ps_asg (pe_op op_modN (pv 5) (pv 3)) (pg_sub (pv 8) (pv 7) set_list)) (pss_cons 
      (ps_set (i := 8) sc_Lflat.nd rfl (Or.inl rfl) (pe_ix ix_list (pv 4) (pv 7) (fun _ _ => rfl))) (pss_cons 
      (ps_asg (pe_ix ix_list (pv 0) (pe_op op_modN (pv 5) (pv 3)) (fun _ _ => rfl)) (pg_sub (pv 8) (pv 6) set_list)) (pss_one 
      (ps_set (i := 5) sc_Lflat.nd rfl (Or.inl rfl) (pe_op op_fdivW (pv 5) (pv 3))))))))))) (pss_one 
  (ps_ret (pv 4))))))), ?_⟩
    have lm : (ns.map V.int).length = ns.length := List.length_map _
    have npos : 0 < ns.length := by have := gb.lo; omega
    have hi4 := gb.hi
    refine ⟨_, rfl, b, _, rfl, .inl (SqL.of eb), ?_⟩
    rw [lm]
    refine ⟨_, rfl, 3, rfl, by omega, by omega, fun T hT => ?_⟩
    refine lc_range (lo := 0) (n := 3) (fun i H2 => GrI H H2 T 3 i fun _ _ => -1) ⟨new_same hT, hT, [], rfl, List.nodup_nil, upd_same, fun a g e => by cases e⟩ ?_ ?_
    · rintro i H2 hi G
      refine ⟨rfl, yesT ?_⟩
      refine ⟨_, rfl, 3, rfl, by omega, by omega, fun D hD => ?_⟩
      refine lc_range (lo := 0) (n := 3) (fun j H3 => Same H2 H3 ∧ H2 D = none ∧ H3 D = some (.lst ((List.range j).map fun _ => .int (-1)))) ⟨new_same hD, hD, upd_same⟩ ?_ ?_
      · rintro j H3 hj ⟨S3, n3, e3⟩
        refine ⟨rfl, yesT ⟨_, rfl, _, e3, ?_, fun b o e => ?_, n3, ?_⟩⟩
        · rw [List.length_map, List.length_range]
          exact small1000 (by omega)
        · rw [upd_ne (ne_of_none e n3)]
          exact S3 _ _ e
        · rw [upd_same, List.range_succ, List.map_append]
          rfl
      · rintro H3 ⟨S3, n3, e3⟩
        obtain ⟨acc, q1, q2, q3⟩ := G.push n3 S3 e3 (by rw [List.length_map, List.length_range]) fun b hb => by rw [List.getElem?_map, List.getElem?_range hb]; rfl
        exact ⟨acc, q1, small1000 (by omega), q3⟩
    rintro H2 G2
    generalize hm : ((ns.length : Nat) : Int) = m
    have mpos : 0 < m := by omega
    have m4 : m ≤ 4 := by omega
    let base : Nat → Nat := fun d => if d = 0 then 0 else if d = 1 then 2 else 3
    refine ⟨_, rfl, _, rfl, _, rfl, by decide, by decide, by decide, by decide, for_rangeC (lo := 0 + ((((3 : Int) - 0).toNat : Nat) : Int) - 1) (c := -1) (n := ((3 : Int) - 0).toNat) (fun d σ H3 => ∃ (f : Nat → Nat → Int) (rest : Int) (v6 v7 v8 : Option V), σ = [some (.ref b), some (.int (N : Nat)), some (.int 3), some (.int m), some (.ref T), some (.int rest), v6, v7, v8] ∧ GrI H H3 T 3 3 f ∧ Fl3 ns m N (base d) f rest)
      ⟨_, (N : Nat), _, _, _, rfl, G2, ⟨rfl, fun z => by (have : (1 : Nat) ≤ 0 := z; omega), fun z => by (have : (2 : Nat) ≤ 0 := z; omega), fun z => by (have : (3 : Nat) ≤ 0 := z; omega)⟩⟩ ?_ ?_⟩
    · rintro d σ H3 hd ⟨f, rest, v6, v7, v8, rfl, G3, F3⟩
      replace hd : d < 3 := hd
      obtain ⟨i, ei⟩ : ∃ i : Nat, 0 + ((((3 : Int) - 0).toNat : Nat) : Int) - 1 + ((d : Nat) : Int) * (-1) = ((i : Nat) : Int) ∧ i + d = 2 := ⟨2 - d, by omega, by omega⟩
      obtain ⟨ei, ed⟩ := ei
      have i3 : i < 3 := by omega
      refine ⟨_, rfl, _, rfl, by omega, by omega, by omega, by omega, for_rangeC (lo := 0 + (((0 + ((((3 : Int) - 0).toNat : Nat) : Int) - 1 + ((d : Nat) : Int) * (-1) - 0).toNat : Nat) : Int) - 1) (c := -1) (n := (0 + ((((3 : Int) - 0).toNat : Nat) : Int) - 1 + ((d : Nat) : Int) * (-1) - 0).toNat) (fun e σ H4 => ∃ (f : Nat → Nat → Int) (rest : Int) (v7 v8 : Option V), σ = [some (.ref b), some (.int (N : Nat)), some (.int 3), some (.int m), some (.ref T), some (.int rest), some (.int (0 + ((((3 : Int) - 0).toNat : Nat) : Int) - 1 + ((d : Nat) : Int) * (-1))), v7, v8] ∧ GrI H H4 T 3 3 f ∧ Fl3 ns m N (base d + e) f rest)
        ⟨f, rest, _, _, rfl, G3, F3⟩ ?_ ?_⟩
      · rintro e σ H4 he ⟨f, rest, v7, v8, rfl, G4, F4⟩
        rw [ei] at he
        rw [ei]
        replace he : e < i := by omega
        obtain ⟨j, ej, eje⟩ : ∃ j : Nat, 0 + (((((i : Nat) : Int) - 0).toNat : Nat) : Int) - 1 + ((e : Nat) : Int) * (-1) = ((j : Nat) : Int) ∧ j + e + 1 = i := ⟨i - 1 - e, by omega, by omega⟩
        have r0 : 0 ≤ rest := by rw [F4.r]; exact rN_pos mpos (by omega) _
        have fm : rest.fmod m = rest % m := Int.fmod_eq_emod_of_nonneg _ (by omega)
        have iv : InT ns (rest.fmod m) := by rw [fm]; exact ⟨Int.emod_nonneg _ (by omega), by rw [hm]; exact Int.emod_lt_of_pos _ mpos⟩
        obtain ⟨ve, vl⟩ := in_nat iv
        obtain ⟨a, xs, L, e1, e2, e3, e4, _, e5⟩ := G4.at_ (j := i) i3
        have G5 : GrI H _ T 3 3 _ := (e5 j (.int (rest.fmod m)) (by omega)).congr (f' := fun a b => .int (if a = i ∧ b = j then rest.fmod m else f a b)) (fun _ _ _ _ => ite_vint)
        obtain ⟨a', xs', L', e1', e2', e3', e4', _, e5'⟩ := G5.at_ (j := j) (by omega)
        have G6 : GrI H _ T 3 3 _ := (e5' i (.int (bk ns (rest.fmod m))) i3).congr (f' := fun a b => .int (if a = j ∧ b = i then bk ns (rest.fmod m) else if a = i ∧ b = j then rest.fmod m else f a b)) (fun _ _ _ _ => ite_vint)
        have F6 := F4.step (i := i) (j := j) (by
          rcases (show d = 0 ∨ d = 1 ∨ d = 2 by omega) with rfl | rfl | rfl
          · rcases (show e = 0 ∨ e = 1 by omega) with rfl | rfl
            · exact .inl ⟨rfl, by omega, by omega⟩
            · exact .inr (.inl ⟨rfl, by omega, by omega⟩)
          · obtain rfl : e = 0 := by omega
            exact .inr (.inr ⟨rfl, by omega, by omega⟩)
          · omega)
        rw [← fm] at F6
        have eb5 := G5.1 _ _ eb
        refine ⟨_, rfl, _, rfl, _, _, _, _, rfl, rfl, SqL.of e1, at_of (j := i) rfl e2, ?_⟩
        refine ⟨_, rfl, _, rfl, _, _, rfl, rfl, by omega, ?_⟩
        refine ⟨_, rfl, _, rfl, a, xs, _, j, rfl, rfl, e3, (by rw [ej, ixN_at (by omega) (by rw [e4]; omega)]; congr 1), ?_⟩
        refine ⟨_, rfl, _, rfl, _, _, _, _, rfl, rfl, SqL.of e1', at_of (j := j) ej e2', ?_⟩
        refine ⟨_, rfl, _, rfl, _, rfl, _, _, rfl, rfl, by omega, ?_⟩
        refine ⟨_, _, _, _, rfl, rfl, SqL.of eb5, at_of (j := (rest.fmod m).toNat) ve (by rw [bk_at vl, ← ve]), ?_⟩
        refine ⟨_, rfl, _, rfl, a', xs', _, i, rfl, rfl, e3', (by rw [ixN_at (by omega) (by rw [e4']; omega)]; congr 1), ?_⟩
        refine ⟨_, rfl, _, rfl, _, _, rfl, rfl, wide_div (b := 62) mpos (by omega) (by decide) (by decide), ?_⟩
        exact ⟨_, _, _, _, rfl, G6, F6⟩
      · rintro σ H4 ⟨f, rest, v7, v8, rfl, G4, F4⟩
        refine ⟨f, rest, _, _, _, rfl, G4, ?_⟩
        rw [ei] at F4
        have : base d + (((i : Nat) : Int) - 0).toNat = base (d + 1) := by
          rcases (show d = 0 ∨ d = 1 ∨ d = 2 by omega) with rfl | rfl | rfl
          · obtain rfl : i = 2 := by omega
            rfl
          · obtain rfl : i = 1 := by omega
            rfl
          · obtain rfl : i = 0 := by omega
            rfl
        rwa [this] at F4
    · rintro σ H3 ⟨f, rest, v6, v7, v8, rfl, G3, F3⟩
      obtain ⟨ps, l1, _⟩ := G3.lines
      have c0 := F3.c0 (show 1 ≤ 3 by decide)
      have c1 := F3.c1 (show 2 ≤ 3 by decide)
      have c2 := F3.c2 (show 3 ≤ 3 by decide)
      subst hm
      refine ⟨_, rfl, k _ T ps f G3.1 hT l1 (Upto.cells gb fun a c ca q => ?_) c0.1 c1.1 c2.1⟩
      have inm : ∀ s, InT ns (rN (ns.length : Nat) (N : Nat) s % (ns.length : Nat)) := fun s => ⟨Int.emod_nonneg _ (by omega), Int.emod_lt_of_pos _ mpos⟩
      rcases (show (a = 1 ∧ c = 0) ∨ (a = 2 ∧ c = 0) ∨ (a = 2 ∧ c = 1) by omega) with ⟨rfl, rfl⟩ | ⟨rfl, rfl⟩ | ⟨rfl, rfl⟩
      · exact ⟨by rw [c2.1]; exact inm 2, c2.2⟩
      · exact ⟨by rw [c1.1]; exact inm 1, c1.2⟩
      · exact ⟨by rw [c0.1]; exact inm 0, c0.2⟩
end
end J

set_option Elab.async false
set_option linter.all false
set_option maxRecDepth 100000
set_option maxHeartbeats 4000000
namespace J
open PySem PySem.Spec PyProof.Rows L2
/-! ### _law_other_backs, _law_other_ties, _law_no_three -/
theorem goodB_of {ms : List Int} (h : dueS (ms.map V.int) = none) : GoodB ms := by
  obtain ⟨ns, e, g⟩ := good_of h
  rwa [map_int_inj e]
def sixB : List (List Int) := [[0, 1], [1, 0], [0, 1, 2], [0, 2, 1], [1, 0, 3, 2], [0, 1, 2, 3]]
theorem sixB_good : ∀ ms ∈ sixB, GoodB ms := by
  intro ms h
  simp only [sixB, List.mem_cons, List.not_mem_nil, or_false] at h
  rcases h with rfl | rfl | rfl | rfl | rfl | rfl <;> exact goodB_of (by decide +kernel)
abbrev s_Lother_backs : Stmt := top 59
theorem sc_Lother_backs : FnScope ["_law_hand_here", "_law_backs_here", "_law_others", "_law_other"] ["_law_hand_here", "_law_backs_here"] (defScope s_Lother_backs) := ⟨rfl, rfl, rfl, by decide +kernel, rfl, by decide +kernel, by decide +kernel⟩
def spOB : Sp := fun vs H Q _ => ∃ (h q b : Addr) (ns : List Int), vs = [.ref h, .ref b] ∧ Hand H h q ∧ H b = some (.lst (ns.map V.int)) ∧ GoodB ns ∧ ∀ (H' : Hp) (y : Addr) (ms : List Int), But h H H' → Hand H' h q → H' y = some (.lst (ms.map V.int)) → GoodB ms → ms ≠ ns → Q (.ref y) H'
abbrev s_Lother_ties : Stmt := top 61
theorem sc_Lother_ties : FnScope ["_law_one", "_law_strange", "_law_way", "_law_made", "e"] ["_law_one", "_law_strange", "_law_way"] (defScope s_Lother_ties) := ⟨rfl, rfl, rfl, by decide +kernel, rfl, by decide +kernel, by decide +kernel⟩
def spOT (C CB : Addr) : Sp := fun vs H Q _ => ∃ (x y : Addr) (ns ms : List Int) (L M : List (List Int)) (way : Int), vs = [.ref x, .ref y, .int way] ∧ BookAt C CB H x ns L ∧ BookAt C CB H y ms M ∧ ns ≠ ms ∧ Q (.bl true) H
abbrev s_Lno_three : Stmt := top 62
theorem sc_Lno_three : FnScope ["_law_book_here", "_law_thing", "_law_way", "e"] ["_law_book_here", "_law_thing", "_law_way"] (defScope s_Lno_three) := ⟨rfl, rfl, rfl, by decide +kernel, rfl, by decide +kernel, by decide +kernel⟩
def spNoTh (K : PySem.W.Frag) (C CB : Addr) : Sp := fun vs H Q _ => ∃ (x : Addr) (ns : List Int) (L : List (List Int)) (v : V) (s : Sh) (way : Int), vs = [.ref x, v, .int way] ∧ BookAt C CB H x ns L ∧ GoodB ns ∧ Cl ns L ∧ BadT K ns.length H v s ∧ ∀ H', Same H H' → Q (.bl true) H'
section
variable {P : Program} {w : World} {K : PySem.W.Frag} {mg : Str → Option Value} {base : Heap}
theorem ok_Lother_backs {f fP : Addr} {fd fdP : FuncData} (F : Fun K "_law_other_backs" "_law_other_backs" s_Lother_backs f fd) (nli : mg "list" = none) (GP : Cal P w K mg base CX0 3 "_law_pick" fP fdP ["_law_hand_here", "_law_things"] spPick) : FnOk P w K mg base CX0 4 f fd ["_law_hand_here", "_law_backs_here"] spOB := by
  refine F.ok sc_Lother_backs (fun vs H Q E h => ?_) (fun cdv A outer s H vs Q E hr h => ?_)
  · obtain ⟨h, q, b, ns, rfl, _⟩ := h
    rfl
  · obtain ⟨h, q, b, ns, rfl, hh, eb, gb, k⟩ := h
    refine ⟨_, (pss_cons 
  (ps_setLc (i := 2) (own := [("_law_other", 3)]) (g := gName 3) rfl sc_Lother_backs.nd rfl rfl (sw_true rfl rfl rfl (by decide +kernel)) (pi_list (pe_lst (pa_cons (pe_lst (pa_cons pe_int (pa_cons pe_int pa_nil))) (pa_cons (pe_lst (pa_cons pe_int (pa_cons pe_int pa_nil))) (pa_cons (pe_lst (pa_cons pe_int (pa_cons pe_int (pa_cons pe_int pa_nil)))) (pa_cons (pe_lst (pa_cons pe_int (pa_cons pe_int (pa_cons pe_int pa_nil)))) (pa_cons (pe_lst (pa_cons pe_int (pa_cons pe_int (pa_cons pe_int (pa_cons pe_int pa_nil))))) (pa_cons (pe_lst (pa_cons pe_int (pa_cons pe_int (pa_cons pe_int (pa_cons pe_int pa_nil))))) pa_nil)))))))) (blkOk_by (own := [("_law_other", 3)]) (N := ["_law_hand_here", "_law_backs_here", "_law_others", "_law_other"]) (sc := defScope s_Lother_backs) (by decide +kernel)) (fun _ _ _ _ _ => pg_name (i := 3) sc_Lother_backs.nd rfl (Or.inl rfl)) (fun _ _ _ _ _ => pts_one (pt_cmpR (r := rNeD K) (op_neD hr.units) (pv 3) (pe_callTy (T := "list") (r := rLst K) call_list_of (by rfl) nli (by decide +kernel) (pa_cons (pv 1) pa_nil)) (nomark _))) (fun _ _ _ _ _ => (pv 3))) (pss_one 
  (ps_ret (pcal GP hr pass0 (pa_cons (pv 0) (pa_cons (pv 2) pa_nil)))))), ?_⟩
    refine ⟨(by show 2 ≤ sizeLine; decide), fun l1 h1 => ⟨(by show 2 ≤ sizeLine; decide), fun l2 h2 => ⟨(by show 3 ≤ sizeLine; decide), fun l3 h3 => ⟨(by show 3 ≤ sizeLine; decide), fun l4 h4 => ⟨(by show 4 ≤ sizeLine; decide), fun l5 h5 => ⟨(by show 4 ≤ sizeLine; decide), fun l6 h6 => ⟨(by show 6 ≤ sizeLine; decide), fun l0 h0 => ?_⟩⟩⟩⟩⟩⟩⟩
    have T1 : Same H (upd H l1 (.lst [.int 0, .int 1])) := new_same h1
    have E1 : (upd H l1 (.lst [.int 0, .int 1])) l1 = some (.lst [.int 0, .int 1]) := upd_same
    generalize upd H l1 (.lst [.int 0, .int 1]) = A1 at h2 h3 h4 h5 h6 h0 T1 E1 ⊢
    have T2 : Same A1 (upd A1 l2 (.lst [.int 1, .int 0])) := new_same h2
    have E2 : (upd A1 l2 (.lst [.int 1, .int 0])) l2 = some (.lst [.int 1, .int 0]) := upd_same
    generalize upd A1 l2 (.lst [.int 1, .int 0]) = A2 at h3 h4 h5 h6 h0 T2 E2 ⊢
    have T3 : Same A2 (upd A2 l3 (.lst [.int 0, .int 1, .int 2])) := new_same h3
    have E3 : (upd A2 l3 (.lst [.int 0, .int 1, .int 2])) l3 = some (.lst [.int 0, .int 1, .int 2]) := upd_same
    generalize upd A2 l3 (.lst [.int 0, .int 1, .int 2]) = A3 at h4 h5 h6 h0 T3 E3 ⊢
    have T4 : Same A3 (upd A3 l4 (.lst [.int 0, .int 2, .int 1])) := new_same h4
    have E4 : (upd A3 l4 (.lst [.int 0, .int 2, .int 1])) l4 = some (.lst [.int 0, .int 2, .int 1]) := upd_same
    generalize upd A3 l4 (.lst [.int 0, .int 2, .int 1]) = A4 at h5 h6 h0 T4 E4 ⊢
    have T5 : Same A4 (upd A4 l5 (.lst [.int 1, .int 0, .int 3, .int 2])) := new_same h5
    have E5 : (upd A4 l5 (.lst [.int 1, .int 0, .int 3, .int 2])) l5 = some (.lst [.int 1, .int 0, .int 3, .int 2]) := upd_same
    generalize upd A4 l5 (.lst [.int 1, .int 0, .int 3, .int 2]) = A5 at h6 h0 T5 E5 ⊢
    have T6 : Same A5 (upd A5 l6 (.lst [.int 0, .int 1, .int 2, .int 3])) := new_same h6
    have E6 : (upd A5 l6 (.lst [.int 0, .int 1, .int 2, .int 3])) l6 = some (.lst [.int 0, .int 1, .int 2, .int 3]) := upd_same
    generalize upd A5 l6 (.lst [.int 0, .int 1, .int 2, .int 3]) = A6 at h0 T6 E6 ⊢
    have T0 : Same A6 (upd A6 l0 (.lst [.ref l1, .ref l2, .ref l3, .ref l4, .ref l5, .ref l6])) := new_same h0
    have E0' : (upd A6 l0 (.lst [.ref l1, .ref l2, .ref l3, .ref l4, .ref l5, .ref l6])) l0 = some (.lst [.ref l1, .ref l2, .ref l3, .ref l4, .ref l5, .ref l6]) := upd_same
    have nl0 : l0 ≠ h := hand_free (((((((hh.keep T1).keep T2).keep T3).keep T4).keep T5).keep T6)) h0
    generalize upd A6 l0 (.lst [.ref l1, .ref l2, .ref l3, .ref l4, .ref l5, .ref l6]) = H1 at T0 E0' ⊢
    have S1 : Same H H1 := T1.trans (T2.trans (T3.trans (T4.trans (T5.trans (T6.trans T0)))))
    have F : ∀ (j : Nat) (y : V), ([.ref l1, .ref l2, .ref l3, .ref l4, .ref l5, .ref l6] : List V)[j]? = some y → ∃ (l : Addr) (ms : List Int), y = .ref l ∧ sixB[j]? = some ms ∧ H1 l = some (.lst (ms.map V.int)) := by
      intro j y hy
      rcases j with _ | _ | _ | _ | _ | _ | j
      · exact ⟨l1, _, (Option.some.inj hy).symm, rfl, T0 _ _ (T6 _ _ (T5 _ _ (T4 _ _ (T3 _ _ (T2 _ _ E1)))))⟩
      · exact ⟨l2, _, (Option.some.inj hy).symm, rfl, T0 _ _ (T6 _ _ (T5 _ _ (T4 _ _ (T3 _ _ E2))))⟩
      · exact ⟨l3, _, (Option.some.inj hy).symm, rfl, T0 _ _ (T6 _ _ (T5 _ _ (T4 _ _ E3)))⟩
      · exact ⟨l4, _, (Option.some.inj hy).symm, rfl, T0 _ _ (T6 _ _ (T5 _ _ E4))⟩
      · exact ⟨l5, _, (Option.some.inj hy).symm, rfl, T0 _ _ (T6 _ _ E5)⟩
      · exact ⟨l6, _, (Option.some.inj hy).symm, rfl, T0 _ _ E6⟩
      · cases hy
    have h1' := hh.keep S1
    have eb1 := S1 _ _ eb
    refine ⟨l0, rfl, ⟨_, SqL.of E0'⟩, fun D hD => ?_⟩
    refine lc_list (K := K) (a := l0) (xs := [.ref l1, .ref l2, .ref l3, .ref l4, .ref l5, .ref l6]) (fun i H2 => Same H1 H2 ∧ H1 D = none ∧ ∃ ys, H2 D = some (.lst ys) ∧ ys.length ≤ i ∧ (∀ y ∈ ys, ∃ (l : Addr) (ms : List Int), y = .ref l ∧ H1 l = some (.lst (ms.map V.int)) ∧ GoodB ms ∧ ms ≠ ns) ∧ (0 < ys.length ∨ ∀ (j : Nat) (ms : List Int), j < i → sixB[j]? = some ms → ms = ns))
      ⟨new_same hD, hD, [], upd_same, Nat.le_refl _, fun y hy => by (cases hy), .inr fun j ms h => by omega⟩ (fun i H2 _ ⟨S2, _⟩ => SqL.of (S2 _ _ E0')) ?_ ?_
    · rintro i y H2 hy ⟨S2, D0, ys, eD, yl, ya, yz⟩
      have i6 := (List.getElem?_eq_some_iff.mp hy).1
      replace i6 : i < 6 := i6
      obtain ⟨l, ms, rfl, em, el⟩ := F i y hy
      refine ⟨rfl, _, rfl, _, rfl, b, _, rfl, .inl (SqL.of (S2 _ _ eb1)), fun z hz => ?_⟩
      have S3 := new_same (o := .lst (ns.map V.int)) hz
      have ez : (upd H2 z (.lst (ns.map V.int))) z = some (.lst (ns.map V.int)) := upd_same
      generalize upd H2 z (.lst (ns.map V.int)) = H3 at S3 ez
      have S13 := S2.trans S3
      refine ⟨.list (ms.map PyData.int), .list (ns.map PyData.int), .lst (SqL.of (S13 _ _ el)) (dp_ints ms), .lst (SqL.of ez) (dp_ints ns), shaped_li ms, shaped_li ns, _, rfl, ?_⟩
      rw [eqv_li]
      by_cases c : ms = ns
      · refine if_fa (by rw [decide_eq_true c]; rfl) ⟨S13, D0, ys, S3 _ _ eD, by omega, ya, ?_⟩
        rcases yz with yz | yz
        · exact .inl yz
        · refine .inr fun j ms' hj e' => ?_
          rcases Nat.lt_or_ge j i with q | q
          · exact yz j ms' q e'
          · obtain rfl : j = i := by omega
            rw [em] at e'
            rw [← Option.some.inj e']
            exact c
      · refine if_tr (by rw [decide_eq_false c]; rfl) ⟨_, rfl, ys, S3 _ _ eD, small1000 (by omega), fun b' o eb' => ?_, D0, ys ++ [.ref l], upd_same, by rw [List.length_append]; show _ + 1 ≤ _; omega, fun y hy' => ?_, .inl (by rw [List.length_append]; show 0 < _ + 1; omega)⟩
        · rw [upd_ne (ne_of_none eb' D0)]
          exact S13 _ _ eb'
        · rcases List.mem_append.mp hy' with hy' | hy'
          · exact ya y hy'
          · rw [List.mem_singleton.mp hy']
            exact ⟨l, ms, rfl, el, sixB_good ms (List.mem_of_getElem? em), c⟩
    · rintro H2 ⟨S2, D0, ys, eD, yl, ya, yz⟩
      have pos : 0 < ys.length := by
        rcases yz with yz | yz
        · exact yz
        · have e1 := yz 0 [0, 1] (by show 0 < 6; decide) rfl
          have e2 := yz 1 [1, 0] (by show 1 < 6; decide) rfl
          rw [← e1] at e2
          cases e2
      have h2' := h1'.keep S2
      refine ⟨_, rfl, _, rfl, h, q, D, ys, rfl, h2', hand_free h1' D0, eD, pos, (by have : ys.length ≤ 6 := yl; omega), fun H3 y my B3 h3 => ?_⟩
      obtain ⟨l, ms, rfl, el, gm, ne⟩ := ya y my
      have e2 := S2 _ _ el
      exact k _ l ms ((But.same (S1.trans S2)).trans B3) h3 (B3 _ _ (nbh h2' gm e2) e2) gm ne
theorem ok_Lother_ties {f C CB CO CG fO fA fW : Addr} {fd fdO fdA fdW : FuncData} (F : Fun K "_law_other_ties" "_law_other_ties" s_Lother_ties f fd) (nis : mg "isinstance" = none) (O : Ex0 K mg "OtherTies" CO) (XC : ExcC K CO) (mG : mg "GuestError" = some (.ref CG)) (kg : PySem.W.kitOne K (.ref CO) (.ref CG) = some true)
    (FO : FnOk P w K mg base (L2.CX P w) 8 fO fdO ["self", "other"] (spTwo C CB CO orL)) (sO : PySem.W.findIn K (.ref CB) "__or__" = some (some (.ref fO))) (iO : PySem.W.isFn K (.ref fO) = true) (bO : Binds K fdO ["self", "other"] [])
    (FA : FnOk P w K mg base (L2.CX P w) 8 fA fdA ["self", "other"] (spTwo C CB CO andL)) (sA : PySem.W.findIn K (.ref CB) "__and__" = some (some (.ref fA))) (iA : PySem.W.isFn K (.ref fA) = true) (bA : Binds K fdA ["self", "other"] []) (sf : PySem.W.selfFirst K CB = true)
    (GW : Cal P w K mg base (L2.CX P w) 2 "is_within" fW fdW ["one", "other"] (spWithin C CB CO)) : FnOk P w K mg base CX0 9 f fd ["_law_one", "_law_strange", "_law_way"] (spOT C CB) := by
  refine F.ok sc_Lother_ties (fun vs H Q E h => ?_) (fun cdv A outer s H vs Q E hr h => ?_)
  · obtain ⟨x, y, ns, ms, L, M, way, rfl, _⟩ := h
    rfl
  · obtain ⟨x, y, ns, ms, L, M, way, rfl, hB, hB', ne, k⟩ := h
    obtain ⟨dx, bt, bb, bl, br, a1, _⟩ := id hB
    obtain ⟨dy, bt', bb', bl', br', a1', _⟩ := id hB'
    refine ⟨_, (pss_cons 
  (ps_try_as (i := 4) (Wout := fun _ _ _ _ => False) rfl rfl sc_Lother_ties.nd rfl rfl ⟨rfl, by decide, Or.inl O.m⟩ takes0 (fun W pn xe tk _ => (pss_one 
    (ps_if (pt_cmpR op_eq (pv 2) pe_int (nomark _)) (pss_one 
      (ps_set (i := 3) sc_Lother_ties.nd rfl (Or.inl rfl) (pe_lst (pa_cons (by exact (pe_binOwn FO sO iO sf bO (fun σ => passAt tk σ) hr (pv 0) (pv 1))) pa_nil)))) (pss_one 
      (ps_if (pt_cmpR op_eq (pv 2) pe_int (nomark _)) (pss_one 
        (ps_set (i := 3) sc_Lother_ties.nd rfl (Or.inl rfl) (pe_lst (pa_cons (by exact (pe_binOwn FA sA iA sf bA (fun σ => passAt tk σ) hr (pv 0) (pv 1))) pa_nil)))) (pss_one 
        (ps_set (i := 3) sc_Lother_ties.nd rfl (Or.inl rfl) (pe_lst (pa_cons (by exact (pe_callS GW.F (hr.mono (by decide)) (by rfl) GW.m GW.kp GW.b (fun σ => passAt tk σ) (by exact (pa_cons (pv 0) (pa_cons (pv 1) pa_nil))))) pa_nil))))))))) (fun a oe cls d pn hz hf => (pss_one 
    (ps_ret (pe_callB (id := "isinstance") (r := rIs0 K CO a cls d) (call_is0 XC hz hf) (by rfl) nis (by decide +kernel) (pa_cons (pv 4) (pa_cons (pe_glob (v := .ref CG) rfl mG rfl) pa_nil))))))) (pss_one 
  (ps_ret (pe_cmpR (r := rEqD K) (op_eqD hr.units) (pv 3) (pe_lst pa_nil) (nomark _))))), ?_⟩
    refine ⟨_, rfl, rfl, _, rfl, ifD (fun c0 => ?_) (fun c0 => ?_)⟩
    · refine ⟨_, rfl, _, rfl, x, y, dx, _, dy, _, rfl, rfl, a1, a1', x, y, ns, ms, L, M, rfl, hB, hB', fun _ => ?_, fun e => absurd e ne⟩
      exact ⟨true, O.te, fun _ a haa => ⟨_, rfl, _, _, true, rfl, rfl, rfl, .own CG, kg, k⟩, fun q => nomatch q⟩
    refine ⟨_, rfl, rfl, _, rfl, ifD (fun c1 => ?_) (fun c1 => ?_)⟩
    · refine ⟨_, rfl, _, rfl, x, y, dx, _, dy, _, rfl, rfl, a1, a1', x, y, ns, ms, L, M, rfl, hB, hB', fun _ => ?_, fun e => absurd e ne⟩
      exact ⟨true, O.te, fun _ a haa => ⟨_, rfl, _, _, true, rfl, rfl, rfl, .own CG, kg, k⟩, fun q => nomatch q⟩
    · refine ⟨_, rfl, _, rfl, x, y, ns, ms, L, M, rfl, hB, hB', fun _ => ?_, fun e => absurd e ne⟩
      exact ⟨true, O.te, fun _ a haa => ⟨_, rfl, _, _, true, rfl, rfl, rfl, .own CG, kg, k⟩, fun q => nomatch q⟩
theorem ok_Lno_three {f C CB CT CG fX fA fB : Addr} {fd fdX fdA fdB : FuncData} (F : Fun K "_law_no_three" "_law_no_three" s_Lno_three f fd) (c : BoC K CB) (nis : mg "isinstance" = none) (GT : Ex P w K mg base "NoThree" "three" CT fX fdX ["self", "three"]) (XC : ExcC K CT) (mG : mg "GuestError" = some (.ref CG)) (kg : PySem.W.kitOne K (.ref CT) (.ref CG) = some true)
    (GA : Mt P w K mg base (L2.CX P w) 8 CB "with_barred" fA fdA ["self", "three"] (spOne C CB CT addL)) (GB : Mt P w K mg base (L2.CX P w) 8 CB "without_barred" fB fdB ["self", "three"] (spOne C CB CT butL)) : FnOk P w K mg base CX0 9 f fd ["_law_book_here", "_law_thing", "_law_way"] (spNoTh K C CB) := by
  refine F.ok sc_Lno_three (fun vs H Q E h => ?_) (fun cdv A outer s H vs Q E hr h => ?_)
  · obtain ⟨x, ns, L, v, s, way, rfl, _⟩ := h
    rfl
  · obtain ⟨x, ns, L, v, sh, way, rfl, hB, gb, cL, hT, k⟩ := h
    obtain ⟨dx, bt, bb, bl, br, a1, _⟩ := id hB
    refine ⟨_, (pss_cons 
  (ps_try_as (i := 3) (Wout := fun _ _ _ _ => False) rfl rfl sc_Lno_three.nd rfl rfl ⟨rfl, by decide, Or.inl GT.m⟩ takes0 (fun W pn xe tk _ => (pss_one 
    (ps_if (pt_cmpR op_eq (pv 2) pe_int (nomark _)) (pss_one 
      (ps_expr (by exact (pmetS (pv 0) c.cl GA.M GA.F hr GA.b (fun σ => passAt tk σ) (by exact (pa_cons (pv 1) pa_nil)))))) (pss_one 
      (ps_expr (by exact (pmetS (pv 0) c.cl GB.M GB.F hr GB.b (fun σ => passAt tk σ) (by exact (pa_cons (pv 1) pa_nil))))))))) (fun a oe cls d pn hz hf => (pss_one 
    (ps_ret (pe_and (pe_callB (id := "isinstance") (r := rIsX K CT a cls d) (call_isX XC hz hf) (by rfl) nis (by decide +kernel) (pa_cons (pv 3) (pa_cons (pe_glob (v := .ref CG) rfl mG rfl) pa_nil))) (pe_one (pe_cmpR (r := rEqD K) (op_eqD hr.units) (pe_xf GT.xf GT.no hz hf (pv 3)) (pv 1) (nomark _)))))))) (pss_one 
  (ps_ret pe_bl))), ?_⟩
    obtain ⟨hv, kn, nt3, D, sh', ev, dp⟩ := id hT
    have no3 : ∀ {A : Prop} (p q r : Int), items sh = [.int p, .int q, .int r] → InT ns p → InT ns q → InT ns r → A := fun p q r e ip iq ir => no_three (nt3 ns rfl) e ip iq ir
    refine ⟨_, rfl, rfl, _, rfl, ifD (fun c0 => ?_) (fun c0 => ?_)⟩
    · refine ⟨_, rfl, x, dx, _, rfl, a1, bf_no _ _ _ _ (by decide +kernel) (by decide +kernel) (by decide +kernel) (by decide +kernel), _, rfl, x, ns, L, v, sh, rfl, hB, gb, cL, hv, kn, fun _ d H1 nd S1 e => ?_, fun p q r ei ip iq ir => no3 p q r ei ip iq ir⟩
      refine ⟨true, GT.te, fun _ a haa => ⟨_, rfl, _, _, true, d, _, rfl, rfl, rfl, e, .own CG, kg, _, rfl, if_tr rfl ⟨_, rfl, rfl, rfl, d, _, _, rfl, e, by simp [List.lookup], _, rfl, D, D, dp _ S1, dp _ S1, sh', sh', ?_⟩⟩, fun q => nomatch q⟩
      rw [ev]
      exact k _ S1
    · refine ⟨_, rfl, x, dx, _, rfl, a1, bf_no _ _ _ _ (by decide +kernel) (by decide +kernel) (by decide +kernel) (by decide +kernel), _, rfl, x, ns, L, v, sh, rfl, hB, gb, cL, hv, kn, fun _ d H1 nd S1 e => ?_, fun p q r ei ip iq ir => no3 p q r ei ip iq ir⟩
      refine ⟨true, GT.te, fun _ a haa => ⟨_, rfl, _, _, true, d, _, rfl, rfl, rfl, e, .own CG, kg, _, rfl, if_tr rfl ⟨_, rfl, rfl, rfl, d, _, _, rfl, e, by simp [List.lookup], _, rfl, D, D, dp _ S1, dp _ S1, sh', sh', ?_⟩⟩, fun q => nomatch q⟩
      rw [ev]
      exact k _ S1
end
end J

set_option Elab.async false
set_option linter.all false
set_option maxRecDepth 100000
set_option maxHeartbeats 4000000
namespace J
open PySem PySem.Spec PyProof.Rows L2
/-! ### _law_threes_of_guests -/
theorem cellF_of {ns : List Int} {f : Nat → Nat → Int} {n : Nat} (ce : CellsAt ns f n) : CellF ns (rowsT f n) f n := fun a b ha hb ne => by
  unfold cell
  rcases Nat.lt_or_gt_of_ne ne with c | c
  · have e : (((rowsT f n)[b]?).getD [])[a]? = some (f b a) := by
      rw [rowsT_at hb]
      show ((List.range b).map (f b))[a]? = _
      rw [List.getElem?_map, List.getElem?_range c]
      rfl
    rw [if_neg (by omega), if_pos c, e]
    show V.int (ns[(f b a).toNat]?.getD 0) = _
    rw [(ce b a hb ha (Ne.symm ne)).2]
    rfl
  · have e : (((rowsT f n)[a]?).getD [])[b]? = some (f a b) := by
      rw [rowsT_at ha]
      show ((List.range a).map (f a))[b]? = _
      rw [List.getElem?_map, List.getElem?_range c]
      rfl
    rw [if_pos c, e]
/-- the three that company number N of three guests shows -/
def thr3 (m : Int) (N : Nat) : List Int := [(N : Int) % m, (N : Int) / m / m % m, (N : Int) / m % m]
theorem noK3 {L : List (List Int)} {f : Nat → Nat → Int} : NoK L f 3 ↔ ¬ [f 2 1, f 1 0, f 2 0] ∈ L :=
  ⟨fun h => h 2 1 0 (by decide) (by decide) (by decide), fun h i j k a b c q => by
    obtain rfl : k = 0 := by omega
    obtain rfl : j = 1 := by omega
    obtain rfl : i = 2 := by omega
    exact h q⟩
theorem thr3_all {m p q r : Nat} (hp : p < m) (hq : q < m) (hr : r < m) : ∃ N, N < m * m * m ∧ thr3 (m : Nat) N = [(p : Int), (q : Int), (r : Int)] := by
  have m0 : 0 < m := by omega
  refine ⟨p + m * (r + m * q), ?_, ?_⟩
  · have h1 : r + m * q + 1 ≤ m * m := by
      have := Nat.mul_le_mul_left m (show q + 1 ≤ m by omega)
      rw [Nat.mul_add, Nat.mul_one] at this
      omega
    have h2 := Nat.mul_le_mul_left m h1
    rw [Nat.mul_add, Nat.mul_one] at h2
    rw [Nat.mul_assoc]
    omega
  · have e1 : ((p + m * (r + m * q) : Nat) : Int) % (m : Nat) = (p : Int) := by
      have : (p + m * (r + m * q)) % m = p := by rw [Nat.add_mul_mod_self_left]; exact Nat.mod_eq_of_lt hp
      exact_mod_cast this
    have d1 : (p + m * (r + m * q)) / m = r + m * q := by rw [Nat.add_mul_div_left _ _ m0, Nat.div_eq_of_lt hp, Nat.zero_add]
    have d2 : (r + m * q) / m = q := by rw [Nat.add_mul_div_left _ _ m0, Nat.div_eq_of_lt hr, Nat.zero_add]
    have e2 : ((p + m * (r + m * q) : Nat) : Int) / (m : Nat) = ((r + m * q : Nat) : Int) := by
      have := congrArg (fun n : Nat => (n : Int)) d1
      exact_mod_cast this
    have e3 : ((r + m * q : Nat) : Int) / (m : Nat) = (q : Int) := by
      have := congrArg (fun n : Nat => (n : Int)) d2
      exact_mod_cast this
    have e4 : ((r + m * q : Nat) : Int) % (m : Nat) = (r : Int) := by
      have : (r + m * q) % m = r := by rw [Nat.add_mul_mod_self_left]; exact Nat.mod_eq_of_lt hr
      exact_mod_cast this
    have e5 : (q : Int) % (m : Nat) = (q : Int) := by
      have := Nat.mod_eq_of_lt hq
      exact_mod_cast this
    unfold thr3
    rw [e1, e2, e3, e4, e5]
theorem within_thr {ns : List Int} {L M : List (List Int)} (cM : Cl ns M) : (∀ t ∈ M, t ∈ L) ↔ ¬ ∃ N, N < ns.length * ns.length * ns.length ∧ ¬ thr3 (ns.length : Nat) N ∈ L ∧ thr3 (ns.length : Nat) N ∈ M := by
  constructor
  · rintro h ⟨N, _, n1, n2⟩
    exact n1 (h _ n2)
  · intro h t ht
    obtain ⟨p, q, r, hp, hq, hr, rfl⟩ := A3_nat (cM.sub t ht)
    obtain ⟨N, hN, e⟩ := thr3_all hp hq hr
    by_cases c : [(p : Int), (q : Int), (r : Int)] ∈ L
    · exact c
    · exact absurd ⟨N, hN, by rw [e]; exact c, by rw [e]; exact ht⟩ h
theorem bool_eq {a b : Bool} {p : Prop} (h1 : a = true ↔ p) (h2 : b = true ↔ p) : a = b := Bool.eq_iff_iff.mpr (h1.trans h2.symm)
theorem or_noB {ns : List Int} {L M : List (List Int)} {f : Nat → Nat → Int} {n : Nat} (ce : CellsAt ns f n) : NoB (orL ns L M) f n ↔ NoB L f n ∧ NoB M f n := by
  have key : ∀ i j k, i < j → j < k → k < n → (B3 (orL ns L M) f i j k ↔ B3 L f i j k ∨ B3 M f i j k) := fun i j k a b c => by
    unfold B3 orL
    rw [List.mem_filter, Bool.or_eq_true, inL_iff, inL_iff]
    exact ⟨fun h => h.2, fun h => ⟨in_A3 (ce i j (by omega) (by omega) (by omega)).1 (ce j k (by omega) c (by omega)).1 (ce i k (by omega) c (by omega)).1, h⟩⟩
  exact ⟨fun h => ⟨fun i j k a b c q => h i j k a b c ((key i j k a b c).mpr (.inl q)), fun i j k a b c q => h i j k a b c ((key i j k a b c).mpr (.inr q))⟩, fun h i j k a b c q => ((key i j k a b c).mp q).elim (h.1 i j k a b c) (h.2 i j k a b c)⟩
abbrev s_Lthrees_of_guests : Stmt := top 63
theorem sc_Lthrees_of_guests : FnScope ["_law_one", "_law_other", "_law_either", "_law_worlds", "_law_within", "_law_backs_here", "_law_many", "_law_seen", "_law_number", "_law_table", "_law_company_here", "_law_lets", "_law_world"] ["_law_one", "_law_other", "_law_either", "_law_worlds", "_law_within"] (defScope s_Lthrees_of_guests) := ⟨rfl, rfl, rfl, by decide +kernel, rfl, by decide +kernel, by decide +kernel⟩
def spTG (C CB : Addr) : Sp := fun vs H Q _ => ∃ (x y e ws w1 w2 : Addr) (ns : List Int) (L M : List (List Int)) (wi : Bool), vs = [.ref x, .ref y, .ref e, .ref ws, .bl wi] ∧ BookAt C CB H x ns L ∧ BookAt C CB H y ns M ∧ BookAt C CB H e ns (orL ns L M) ∧ H ws = some (.lst [.ref w1, .ref w2]) ∧ WAt H w1 ns L ∧ WAt H w2 ns M ∧ GoodB ns ∧ Cl ns L ∧ Cl ns M ∧ (wi = true ↔ ∀ t ∈ M, t ∈ L) ∧ ∀ H', Same H H' → Q (.bl true) H'
section
variable {P : Program} {w : World} {K : PySem.W.Frag} {mg : Str → Option Value} {base : Heap}
theorem ok_Lthrees_of_guests {fa C CC CB CO fF fC fL fI fP : Addr} {fd fdF fdC fdL fdI fdP : FuncData} (F : Fun K "_law_threes_of_guests" "_law_threes_of_guests" s_Lthrees_of_guests fa fd) (cb : BoC K CB) (nl : mg "len" = none) (nr : mg "range" = none)
    (GF : Cal P w K mg base CX0 1 "_law_flat" fF fdF ["_law_backs_here", "_law_number", "_law_size"] spFlat) (GC : Cal P w K mg base CX0 7 "_law_company" fC fdC ["_law_backs_here", "_law_labels_here", "_law_table"] (spLComp C CC)) (GI : Cal P w K mg base CX0 1 "_law_fits" fI fdI ["_law_world", "_law_table"] spFits)
    (GP : Cal P w K mg base CX0 1 "_law_plain" fP fdP ["_law_answer", "_law_due"] spP0) (GL : Mt P w K mg base (L2.CX P w) 3 CB "lets" fL fdL ["self", "company"] (spLets C CC CB CO)) : FnOk P w K mg base CX0 8 fa fd ["_law_one", "_law_other", "_law_either", "_law_worlds", "_law_within"] (spTG C CB) := by
  refine F.ok sc_Lthrees_of_guests (fun vs H Q E h => ?_) (fun cdv A outer s H vs Q E hr h => ?_)
  · obtain ⟨x, y, e, ws, w1, w2, ns, L, M, wi, rfl, _⟩ := h
    rfl
  · obtain ⟨x, y, e, ws, w1, w2, ns, L, M, wi, rfl, hX, hY, hE, ews, hW1, hW2, gb, cL, cM, wiff, k⟩ := h
    refine ⟨_, (pss_cons 
  (ps_set (i := 5) sc_Lthrees_of_guests.nd rfl (Or.inl rfl) (pe_ix ix_tup (pe_ix ix_list (pv 3) pe_int (fun _ _ => rfl)) pe_int (fun _ _ => rfl))) (pss_cons 
  (ps_set (i := 6) sc_Lthrees_of_guests.nd rfl (Or.inl rfl) (pe_callB call_len_seq (by rfl) nl PySem.boot_len (pa_cons (pv 5) pa_nil))) (pss_cons 
  (ps_set (i := 7) sc_Lthrees_of_guests.nd rfl (Or.inl rfl) pe_bl) (pss_cons 
  (ps_for PassesOwn.never rfl (pi_range1 (by rfl) nr (pa_cons (pe_op op_mul (pe_op op_mul (pv 6) (pv 6)) (pv 6)) pa_nil)) (pg_name (i := 8) sc_Lthrees_of_guests.nd rfl (Or.inl rfl)) (pss_cons 
    (ps_set (i := 9) sc_Lthrees_of_guests.nd rfl (Or.inr rfl) (pcal GF hr pass0 (pa_cons (pv 5) (pa_cons (pv 8) (pa_cons pe_int pa_nil))))) (pss_cons 
    (ps_set (i := 10) sc_Lthrees_of_guests.nd rfl (Or.inl rfl) (pcal GC hr pass0 (pa_cons (pv 5) (pa_cons (pe_lst (pa_cons pe_int (pa_cons pe_int (pa_cons pe_int pa_nil)))) (pa_cons (pv 9) pa_nil))))) (pss_cons 
    (ps_setLc (i := 11) (own := [("_law_world", 12)]) (g := gName 12) rfl sc_Lthrees_of_guests.nd rfl rfl (sw_true rfl rfl rfl (by decide +kernel)) (pi_list (pv 3)) (blkOk_by (own := [("_law_world", 12)]) (N := ["_law_one", "_law_other", "_law_either", "_law_worlds", "_law_within", "_law_backs_here", "_law_many", "_law_seen", "_law_number", "_law_table", "_law_company_here", "_law_lets", "_law_world"]) (sc := defScope s_Lthrees_of_guests) (by decide +kernel)) (fun _ _ _ _ _ => pg_name (i := 12) sc_Lthrees_of_guests.nd rfl (Or.inl rfl)) (fun _ _ _ _ _ => pts_nil) (fun _ _ _ _ _ => (pcal GI hr pass0 (pa_cons (pv 12) (pa_cons (pv 9) pa_nil))))) (pss_cons 
    (ps_if (PW.pt (pw_or (pt_not (pt_val (pcal GP hr pass0 (pa_cons (pe_meth (pv 0) cb.cl GL.M GL.F (hr.mono (by decide)) GL.b .nil passL (pa_cons (pv 10) pa_nil)) (pa_cons (pe_ix ix_list (pv 11) pe_int (fun _ _ => rfl)) pa_nil))))) (pw_or1 (pt_not (pt_val (pcal GP hr pass0 (pa_cons (pe_meth (pv 1) cb.cl GL.M GL.F (hr.mono (by decide)) GL.b .nil passL (pa_cons (pv 10) pa_nil)) (pa_cons (pe_ix ix_list (pv 11) pe_int (fun _ _ => rfl)) pa_nil)))))))) (pss_one 
      (ps_ret pe_bl)) pss_nil) (pss_cons 
    (ps_if (pt_not (pt_val (pcal GP hr pass0 (pa_cons (pe_meth (pv 2) cb.cl GL.M GL.F (hr.mono (by decide)) GL.b .nil passL (pa_cons (pv 10) pa_nil)) (pa_cons (pe_and (pe_ix ix_list (pv 11) pe_int (fun _ _ => rfl)) (pe_one (pe_ix ix_list (pv 11) pe_int (fun _ _ => rfl)))) pa_nil))))) (pss_one 
      (ps_ret pe_bl)) pss_nil) (pss_one 
    (ps_if (PW.pt (pw_and (pt_val (pe_ix ix_list (pv 11) pe_int (fun _ _ => rfl))) (pw_and1 (pt_not (pt_val (pe_ix ix_list (pv 11) pe_int (fun _ _ => rfl))))))) (pss_one 
      (ps_set (i := 7) sc_Lthrees_of_guests.nd rfl (Or.inl rfl) pe_bl)) pss_nil)))))))) (pss_one 
  (ps_ret (pe_cmpR op_eq (pv 4) (pe_not (pv 7)) (nomark _)))))))), ?_⟩
    obtain ⟨b, z, po, ro, x1, x2, x3, x4, x5⟩ := id hW1
    have lm : (ns.map V.int).length = ns.length := List.length_map _
    have hi4 := gb.hi
    have lo2 := gb.lo
    obtain ⟨m, hm⟩ : ∃ m, m = ns.length := ⟨_, rfl⟩
    have mm : m * m ≤ 16 := Nat.mul_le_mul (show m ≤ 4 by omega) (show m ≤ 4 by omega)
    have mmm : m * m * m ≤ 64 := Nat.mul_le_mul mm (show m ≤ 4 by omega)
    refine ⟨_, rfl, ?_⟩
    refine ⟨_, _, 0, _, rfl, rfl, SqL.of ews, at_of (j := 0) rfl rfl, ?_⟩
    refine ⟨_, _, 0, _, rfl, rfl, SqT.of x1, at_of (j := 0) rfl rfl, ?_⟩
    refine ⟨_, rfl, b, _, rfl, .inl (SqL.of x2), ?_⟩
    rw [lm, ← hm]
    refine ⟨_, rfl, _, rfl, _, _, rfl, rfl, .inl ⟨by omega, by omega⟩, _, rfl, _, _, rfl, rfl, .inr ⟨by omega, by omega⟩, ?_⟩
    have ec : ((m : Nat) : Int) * ((m : Nat) : Int) * ((m : Nat) : Int) = ((m * m * m : Nat) : Int) := by push_cast; rfl
    refine ⟨_, rfl, by rw [ec]; omega, by rw [ec]; omega, for_range (lo := 0) (n := (((m : Nat) : Int) * ((m : Nat) : Int) * ((m : Nat) : Int)).toNat) (fun i σ H' => Same H H' ∧ ∃ (sn : Bool) (v8 v9 v10 v11 : Option V), σ = [some (.ref x), some (.ref y), some (.ref e), some (.ref ws), some (.bl wi), some (.ref b), some (.int (m : Nat)), some (.bl sn), v8, v9, v10, v11, none] ∧ (sn = true ↔ ∃ N, N < i ∧ ¬ thr3 (m : Nat) N ∈ L ∧ thr3 (m : Nat) N ∈ M))
      ⟨Same.refl _, false, none, none, none, none, rfl, ⟨fun q => (by cases q), fun ⟨N, q, _⟩ => by omega⟩⟩ ?_ ?_⟩
    · rintro i σ H1 hi ⟨S1, sn, v8, v9, v10, v11, rfl, sni⟩
      rw [ec] at hi
      replace hi : i < m * m * m := hi
      refine ⟨_, rfl, _, rfl, b, ns, i, (by rw [Int.zero_add]; rfl), S1 _ _ x2, gb, by omega, fun H2 T ps f S2 nT lT ce f21 f20 f10 => ?_⟩
      rw [← hm] at f21 f20 f10
      have et : [f 2 1, f 1 0, f 2 0] = thr3 (m : Nat) i := by rw [f21, f10, f20]; rfl
      have S12 := S1.trans S2
      refine ⟨_, rfl, (by show 3 ≤ sizeLine; decide), fun la hla => ?_⟩
      have S3 := new_same (o := .lst [.int 0, .int 1, .int 2]) hla
      have ela : (upd H2 la (.lst [.int 0, .int 1, .int 2])) la = some (.lst (([0, 1, 2] : List Int).map V.int)) := upd_same
      generalize upd H2 la (.lst [.int 0, .int 1, .int 2]) = H3 at S3 ela
      have S13 := S12.trans S3
      have lT3 := lT.keep S3
      refine ⟨_, rfl, b, la, T, ps, f, ns, [0, 1, 2], rfl, S13 _ _ x2, gb, ela, ?_, ?_, (by show 3 ≤ 60; decide), lT3, fun a c ha hc => (ce a c ha (Nat.lt_trans hc ha) (by omega)).1, fun H4 cc S4 hC => ?_⟩
      · intro j a c e1 e2
        rcases j with _ | _ | j
        · cases e1; cases e2; decide
        · cases e1; cases e2; decide
        · cases e2
      · intro n hn
        simp only [List.mem_cons, List.not_mem_nil, or_false] at hn
        omega
      have S14 := S13.trans S4
      refine ⟨_, rfl, ws, rfl, ⟨_, SqL.of (S14 _ _ ews)⟩, fun D hD => ?_⟩
      refine lc_list (K := K) (a := ws) (xs := [.ref w1, .ref w2]) (fun q H5 => Same H4 H5 ∧ H4 D = none ∧ ∃ bs : List Bool, H5 D = some (.lst (bs.map V.bl)) ∧ bs.length = q ∧ (∀ b0, bs[0]? = some b0 → (b0 = true ↔ NoK L f 3)) ∧ (∀ b1, bs[1]? = some b1 → (b1 = true ↔ NoK M f 3))) ⟨new_same hD, hD, [], upd_same, rfl, fun b0 q => (by cases q), fun b0 q => (by cases q)⟩ (fun q H5 _ ⟨S5, _⟩ => SqL.of (S5 _ _ (S14 _ _ ews))) ?_ ?_
      · rintro q v H5 hv ⟨S5, D0, bs, eD, bl, hb0, hb1⟩
        have S15 := S14.trans S5
        have fin : ∀ c : Bool, (∀ b0, (bs ++ [c])[0]? = some b0 → (b0 = true ↔ NoK L f 3)) → (∀ b1, (bs ++ [c])[1]? = some b1 → (b1 = true ↔ NoK M f 3)) → ∃ acc, H5 D = some (.lst acc) ∧ acc.length < sizeLine ∧ (Same H4 (upd H5 D (.lst (acc ++ [.bl c]))) ∧ H4 D = none ∧ ∃ bs : List Bool, (upd H5 D (.lst (acc ++ [.bl c]))) D = some (.lst (bs.map V.bl)) ∧ bs.length = q + 1 ∧ (∀ b0, bs[0]? = some b0 → (b0 = true ↔ NoK L f 3)) ∧ (∀ b1, bs[1]? = some b1 → (b1 = true ↔ NoK M f 3))) := fun c g0 g1 => by
          have q2 : q < 2 := (List.getElem?_eq_some_iff.mp hv).1
          refine ⟨_, eD, small1000 (by rw [List.length_map]; omega), fun o u eo => ?_, D0, bs ++ [c], by rw [upd_same, List.map_append]; rfl, by rw [List.length_append, bl]; rfl, g0, g1⟩
          rw [upd_ne (ne_of_none eo D0)]
          exact S5 _ _ eo
        refine ⟨rfl, yesT ?_⟩
        rcases q with _ | _ | q
        · obtain rfl := Option.some.inj hv
          refine ⟨_, rfl, _, rfl, w1, T, ns, L, ps, f, 3, rfl, hW1.keep S15, lT3.keep (S4.trans S5), by decide, gb, ce, fun c hc => fin c (fun b0 e0 => ?_) (fun b1 e1 => ?_)⟩
          · cases bs with
            | nil => rw [← Option.some.inj e0]; exact hc
            | cons a t => cases bl
          · cases bs with
            | nil => cases e1
            | cons a t => cases bl
        · obtain rfl := Option.some.inj hv
          refine ⟨_, rfl, _, rfl, w2, T, ns, M, ps, f, 3, rfl, hW2.keep S15, lT3.keep (S4.trans S5), by decide, gb, ce, fun c hc => fin c (fun b0 e0 => ?_) (fun b1 e1 => ?_)⟩
          · cases bs with
            | nil => cases bl
            | cons a t => cases t with
              | nil => exact hb0 b0 e0
              | cons => cases bl
          · cases bs with
            | nil => cases bl
            | cons a t => cases t with
              | nil => rw [← Option.some.inj e1]; exact hc
              | cons => cases bl
        · cases hv
      rintro H5 ⟨S5, D0, bs, eD, bl, hb0, hb1⟩
      obtain ⟨b0, b1, rfl⟩ : ∃ b0 b1, bs = [b0, b1] := by
        match bs, bl with
        | [b0, b1], _ => exact ⟨b0, b1, rfl⟩
      have i0 := hb0 b0 rfl
      have i1 := hb1 b1 rfl
      clear hb0 hb1
      have nkb0 := i0.trans (noK_noB gb cL ce)
      have nkb1 := i1.trans (noK_noB gb cM ce)
      have S15 := S14.trans S5
      have hC5 := hC.keep S5
      have cF := cellF_of ce
      have eD' : H5 D = some (.lst [.bl b0, .bl b1]) := eD
      obtain ⟨dx, _, _, _, _, ax, _⟩ := id hX
      obtain ⟨dy, _, _, _, _, ay, _⟩ := id hY
      obtain ⟨de, _, _, _, _, ae, _⟩ := id hE
      have nol : ∀ t b l r, (bf t b l r).lookup ("lets" : Str) = none := fun t b l r => bf_no _ _ _ _ (by decide +kernel) (by decide +kernel) (by decide +kernel) (by decide +kernel)
      refine ⟨_, rfl, x, dx, _, rfl, S15 _ _ ax, nol _ _ _ _, _, rfl, x, cc, ns, ns, [0, 1, 2], L, rowsT f 3, f, rfl, hX.keep (S15.trans (Same.refl _)), hC5.keep (Same.refl _), fun q => absurd rfl q, fun _ => ⟨cF, ce, fun c0 H6 hc0 S6 => ?_⟩⟩
      obtain rfl : c0 = b0 := bool_eq hc0 nkb0
      refine ⟨_, rfl, ?_⟩
      refine ⟨_, _, 0, _, rfl, rfl, SqL.of (S6 _ _ eD'), at_of (j := 0) rfl rfl, ?_⟩
      refine ⟨.inr ⟨c0, rfl⟩, _, rfl, iteF ?_⟩
      refine ⟨_, rfl, y, dy, _, rfl, S6 _ _ (S15 _ _ ay), nol _ _ _ _, _, rfl, y, cc, ns, ns, [0, 1, 2], M, rowsT f 3, f, rfl, hY.keep (S15.trans S6), hC5.keep S6, fun q => absurd rfl q, fun _ => ⟨cF, ce, fun c1 H7 hc1 S7 => ?_⟩⟩
      obtain rfl : c1 = b1 := bool_eq hc1 nkb1
      have S57 := S6.trans S7
      refine ⟨_, rfl, ?_⟩
      refine ⟨_, _, 1, _, rfl, rfl, SqL.of (S57 _ _ eD'), at_of (j := 1) rfl rfl, ?_⟩
      refine ⟨.inr ⟨c1, rfl⟩, _, rfl, iteF ?_⟩
      refine ⟨_, rfl, e, de, _, rfl, S57 _ _ (S15 _ _ ae), nol _ _ _ _, _, rfl, e, cc, ns, ns, [0, 1, 2], (orL ns L M), rowsT f 3, f, rfl, hE.keep (S15.trans S57), hC5.keep S57, fun q => absurd rfl q, fun _ => ⟨cF, ce, fun c2 H8 hc2 S8 => ?_⟩⟩
      have S58 := S57.trans S8
      have eb2 : c2 = (c0 && c1) := by
        replace hc2 : c2 = true ↔ NoB (orL ns L M) f 3 := hc2
        rw [or_noB ce] at hc2
        rw [Bool.eq_iff_iff, hc2, Bool.and_eq_true, nkb0, nkb1]
      refine ⟨_, rfl, ?_⟩
      refine ⟨_, _, 0, _, rfl, rfl, SqL.of (S58 _ _ eD'), at_of (j := 0) rfl rfl, ?_⟩
      have S18 := S15.trans S58
      have nx : ∀ sn' : Bool, (sn' = true ↔ sn = true ∨ (c0 = true ∧ c1 = false)) → (sn' = true ↔ ∃ N, N < i + 1 ∧ ¬ thr3 (m : Nat) N ∈ L ∧ thr3 (m : Nat) N ∈ M) := fun sn' h => by
        rw [noK3, et] at i0 i1
        rw [h, sni, i0, ← Bool.not_eq_true, i1, Classical.not_not]
        constructor
        · rintro (⟨N, n1, n2⟩ | h2)
          · exact ⟨N, by omega, n2⟩
          · exact ⟨i, by omega, h2⟩
        · rintro ⟨N, n1, n2⟩
          rcases Nat.lt_or_ge N i with q | q
          · exact .inl ⟨N, q, n2⟩
          · obtain rfl : N = i := by omega
            exact .inr n2
      cases c0 with
      | false =>
        obtain rfl : c2 = false := eb2
        refine ⟨_, rfl, iteF ⟨.inr ⟨_, rfl⟩, _, rfl, iteF ?_⟩⟩
        refine ⟨_, rfl, ?_⟩
        refine ⟨_, _, 0, _, rfl, rfl, SqL.of (S58 _ _ eD'), at_of (j := 0) rfl rfl, ?_⟩
        refine ⟨_, rfl, iteF ?_⟩
        refine iteF ?_
        exact ⟨S18, sn, _, _, _, _, rfl, nx sn ⟨.inl, fun q => q.elim id fun q => by cases q.1⟩⟩
      | true =>
        obtain rfl : c2 = c1 := eb2
        refine ⟨_, rfl, iteT ?_⟩
        refine ⟨_, rfl, ?_⟩
        refine ⟨_, _, 1, _, rfl, rfl, SqL.of (S58 _ _ eD'), at_of (j := 1) rfl rfl, ?_⟩
        refine ⟨.inr ⟨_, rfl⟩, _, rfl, iteF ?_⟩
        refine ⟨_, rfl, ?_⟩
        refine ⟨_, _, 0, _, rfl, rfl, SqL.of (S58 _ _ eD'), at_of (j := 0) rfl rfl, ?_⟩
        refine ⟨_, rfl, iteT ?_⟩
        refine ⟨_, rfl, ?_⟩
        refine ⟨_, _, 1, _, rfl, rfl, SqL.of (S58 _ _ eD'), at_of (j := 1) rfl rfl, ?_⟩
        cases c2 with
        | true =>
          refine ⟨_, rfl, iteF ?_⟩
          exact ⟨S18, sn, _, _, _, _, rfl, nx sn ⟨.inl, fun q => q.elim id fun q => by cases q.2⟩⟩
        | false =>
          refine ⟨_, rfl, iteT ?_⟩
          exact ⟨S18, true, _, _, _, _, rfl, nx true ⟨fun _ => .inr ⟨rfl, rfl⟩, fun _ => rfl⟩⟩
    · rintro σ H1 ⟨S1, sn, v8, v9, v10, v11, rfl, sni⟩
      rw [ec, Int.toNat_natCast] at sni
      have wt := within_thr (L := L) cM
      rw [← hm] at wt
      refine ⟨_, rfl, _, rfl, _, rfl, rfl, ?_⟩
      have ew : wi = !sn := by
        cases sn with
        | true => exact Bool.eq_false_iff.mpr fun q => (wt.mp (wiff.mp q)) (sni.mp rfl)
        | false => exact wiff.mpr (wt.mpr fun q => by have := sni.mpr q; cases this)
      rw [ew]
      have : decide (V.bl (!sn) = V.bl (!sn)) = true := decide_eq_true rfl
      rw [this]
      exact k _ S1
end
end J

set_option Elab.async false
set_option linter.all false
set_option maxRecDepth 100000
set_option maxHeartbeats 8000000
namespace J
open PySem PySem.Spec PyProof.Rows L2
abbrev s_law : Stmt := top 64
abbrev Nlaw : List Str := ["_law_script", "_law_hand_here", "_law_many", "_law_first", "_law_backs_here", "_law_kept", "_law_second", "_law_one", "_law_other", "_law_either", "_law_within", "_law_three", "_law_k", "_law_table", "_law_company_here", "_law_strange", "_law_way", "_law_least", "_law_bars", "_law_odd", "_law_row"]
theorem sc_law : FnScope ["_law_script", "_law_hand_here", "_law_many", "_law_first", "_law_backs_here", "_law_kept", "_law_second", "_law_one", "_law_other", "_law_either", "_law_within", "_law_three", "_law_k", "_law_table", "_law_company_here", "_law_strange", "_law_way", "_law_least", "_law_bars", "_law_odd", "_law_row"] ["_law_script"] (defScope s_law) := ⟨rfl, rfl, rfl, by decide +kernel, rfl, by decide +kernel, by decide +kernel⟩
def spLaw (K : PySem.W.Frag) : Sp := fun vs H Q _ => ∃ (a : Addr) (ns : List Int), vs = [.ref a] ∧ SqL K H a (ns.map V.int) ∧ ns.length ≤ 63 ∧ ∀ H', Q (.bl true) H'
/-- the statements from the i-th on, n of them -/
abbrev cut (i n : Nat) : List Stmt := ((defBody s_law).drop i).take n
/-- the body's frame -/
abbrev XL (P : Program) (w : World) (K : PySem.W.Frag) (mg : Str → Option Value) (base : Heap) (f : Addr) (cdv : Value) (A : Around) (outer : List Env) (s : Shared) (H : Hp) (E : XK) : Cx :=
  (cxOf CX0 P w K mg base Nlaw "law" (defScope s_law) f cdv A outer s H E).nox
/-- statements that lead from M to M' -/
def SegT (X : Cx) (sts : List Stmt) (M M' : L2.St → Hp → Prop) : Prop := ∀ rest u, PSs X rest u → ∃ t, PSs X (sts ++ rest) t ∧ ∀ D σ H, M σ H → (∀ σ' H', M' σ' H' → u D σ' H') → t D σ H
/-- statements that end with True -/
def EndT (X : Cx) (sts : List Stmt) (M : L2.St → Hp → Prop) : Prop := ∃ t, PSs X sts t ∧ ∀ D σ H, M σ H → (∀ H', D.rt (.bl true) H') → t D σ H
theorem SegT.end {X : Cx} {sts rest : List Stmt} {M M' : L2.St → Hp → Prop} (h : SegT X sts M M') (e : EndT X rest M') : EndT X (sts ++ rest) M := by
  obtain ⟨u, pu, hu⟩ := e
  obtain ⟨t, pt, ht⟩ := h rest u pu
  exact ⟨t, pt, fun D σ H m k => ht D σ H m fun σ' H' m' => hu D σ' H' m' k⟩
/-- the worlds that are drawn -/
structure Wor (h q b w1 : Addr) (ns : List Int) (L : List (List Int)) (H : Hp) : Prop where
  hh : Hand H h q
  gb : GoodB ns
  eb : H b = some (.lst (ns.map V.int))
  W : WAt H w1 ns L
  cL : Cl ns L
theorem Wor.keep {h q b w1 : Addr} {ns : List Int} {L : List (List Int)} {H H' : Hp} (c : Wor h q b w1 ns L H) (S : Same H H') : Wor h q b w1 ns L H' := ⟨c.hh.keep S, c.gb, S _ _ c.eb, c.W.keep S, c.cL⟩
theorem Wor.but {h q b w1 : Addr} {ns : List Int} {L : List (List Int)} {H H' : Hp} (c : Wor h q b w1 ns L H) (B : But h H H') (h' : Hand H' h q) : Wor h q b w1 ns L H' := ⟨h', c.gb, B _ _ (nbh c.hh c.gb c.eb) c.eb, c.W.but c.hh c.gb c.gb.lo B, c.cL⟩
def M0 (K : PySem.W.Frag) (σ : L2.St) (H : Hp) : Prop := ∃ (a : Addr) (ns : List Int), σ = start Nlaw [.ref a] ∧ SqL K H a (ns.map V.int) ∧ ns.length ≤ 63
def M4 (σ : L2.St) (H : Hp) : Prop := ∃ (a h q b w1 : Addr) (ns : List Int) (L : List (List Int)), σ = [some (.ref a), some (.ref h), some (.int (ns.length : Nat)), some (.ref w1), some (.ref b), none, none, none, none, none, none, none, none, none, none, none, none, none, none, none, none] ∧ Wor h q b w1 ns L H
/-- two worlds -/
structure Wor2 (h q b w1 w2 : Addr) (ns : List Int) (L M : List (List Int)) (H : Hp) : Prop extends Wor h q b w1 ns L H where
  W2 : WAt H w2 ns M
  cM : Cl ns M
theorem Wor2.keep {h q b w1 w2 : Addr} {ns : List Int} {L M : List (List Int)} {H H' : Hp} (c : Wor2 h q b w1 w2 ns L M H) (S : Same H H') : Wor2 h q b w1 w2 ns L M H' := ⟨c.toWor.keep S, c.W2.keep S, c.cM⟩
theorem Wor2.but {h q b w1 w2 : Addr} {ns : List Int} {L M : List (List Int)} {H H' : Hp} (c : Wor2 h q b w1 w2 ns L M H) (B : But h H H') (h' : Hand H' h q) : Wor2 h q b w1 w2 ns L M H' := ⟨c.toWor.but B h', c.W2.but c.hh c.gb c.gb.lo B, c.cM⟩
def M6 (σ : L2.St) (H : Hp) : Prop := ∃ (a h q b w1 kz w2 : Addr) (ns : List Int) (L M : List (List Int)), σ = [some (.ref a), some (.ref h), some (.int (ns.length : Nat)), some (.ref w1), some (.ref b), some (.ref kz), some (.ref w2), none, none, none, none, none, none, none, none, none, none, none, none, none, none] ∧ Wor2 h q b w1 w2 ns L M H
section
variable {P : Program} {w : World} {K : PySem.W.Frag} {mg : Str → Option Value} {base : Heap} {f : Addr} {cdv : Value} {A : Around} {outer : List Env} {s : Shared} {H0 : Hp} {E0 : XK}
theorem seg1 {fH fP fA : Addr} {fdH fdP fdA : FuncData} (hr : Room 10 (XL P w K mg base f cdv A outer s H0 E0).A)
    (GH : Cal P w K mg base CX0 1 "_law_hand" fH fdH ["_law_script"] (spHand K)) (GP : Cal P w K mg base CX0 3 "_law_pick" fP fdP ["_law_hand_here", "_law_things"] spPick) (GA : Cal P w K mg base CX0 4 "_law_any_world" fA fdA ["_law_hand_here", "_law_many"] spAW) :
    SegT (XL P w K mg base f cdv A outer s H0 E0) (cut 0 4) (M0 K) M4 := by
  intro rest u hu
  refine ⟨_, (pss_cons 
  (ps_set (i := 1) sc_law.nd rfl (Or.inr rfl) (pcal GH hr pass0 (pa_cons (pv 0) pa_nil))) (pss_cons 
  (ps_set (i := 2) sc_law.nd rfl (Or.inr rfl) (pcal GP hr pass0 (pa_cons (pv 1) (pa_cons (pe_lst (pa_cons pe_int (pa_cons pe_int (pa_cons pe_int (pa_cons pe_int (pa_cons pe_int pa_nil)))))) pa_nil)))) (pss_cons 
  (ps_set (i := 3) sc_law.nd rfl (Or.inl rfl) (pcal GA hr pass0 (pa_cons (pv 1) (pa_cons (pv 2) pa_nil)))) (pss_cons 
  (ps_set (i := 4) sc_law.nd rfl (Or.inr rfl) (pe_ix ix_tup (pv 3) pe_int (fun _ _ => rfl))) hu)))), fun D σ H m k => ?_⟩
  obtain ⟨a, ns0, rfl, hS, hn⟩ := m
  refine ⟨_, rfl, a, ns0, rfl, hS, hn, fun Ha h q S0 hh0 hq0 hh => ?_⟩
  refine ⟨_, rfl, (by show 5 ≤ sizeLine; decide), fun l0 hl0 => ?_⟩
  obtain ⟨nl0, _⟩ := hh.same_h' hl0
  refine ⟨h, q, l0, _, rfl, hh.new hl0, nl0, upd_same, (by show 0 < 5; decide), (by show 5 ≤ 1000; decide), fun H1 y my b1 h1 => ?_⟩
  obtain ⟨m, rfl, m2, m4⟩ : ∃ m : Nat, y = .int (m : Nat) ∧ 2 ≤ m ∧ m ≤ 4 := by
    simp only [List.mem_cons, List.not_mem_nil, or_false] at my
    rcases my with rfl | rfl | rfl | rfl | rfl
    · exact ⟨2, rfl, by decide, by decide⟩
    · exact ⟨3, rfl, by decide, by decide⟩
    · exact ⟨2, rfl, by decide, by decide⟩
    · exact ⟨3, rfl, by decide, by decide⟩
    · exact ⟨4, rfl, by decide, by decide⟩
  clear b1 my
  refine ⟨_, rfl, _, rfl, h, q, (m : Nat), rfl, by omega, by omega, h1, fun H2 w1 ns L ln gb B2 h2 W2 cL => ?_⟩
  obtain rfl : m = ns.length := by omega
  obtain ⟨b, z, po, ro, x1, x2, x345⟩ := id W2
  refine ⟨_, rfl, ?_⟩
  refine ⟨_, _, 0, _, rfl, rfl, SqT.of x1, at_of (j := 0) rfl rfl, ?_⟩
  exact k _ _ ⟨a, h, q, b, w1, ns, L, rfl, h2, gb, x2, W2, cL⟩
theorem seg2 {fD fC fL : Addr} {fdD fdC fdL : FuncData} (hr : Room 10 (XL P w K mg base f cdv A outer s H0 E0).A)
    (GD : Cal P w K mg base CX0 2 "_law_draw" fD fdD ["_law_hand_here", "_law_many"] spDraw) (GC : Cal P w K mg base CX0 2 "_law_classes" fC fdC ["_law_backs_here"] spLC) (GL : Cal P w K mg base CX0 2 "_law_let" fL fdL ["_law_backs_here", "_law_classes_here"] spLL) :
    SegT (XL P w K mg base f cdv A outer s H0 E0) (cut 4 2) M4 M6 := by
  intro rest u hu
  refine ⟨_, (pss_cons 
  (ps_setLc (i := 5) (own := [("_law_three", 11)]) (g := gName 11) rfl sc_law.nd rfl rfl (sw_true rfl rfl rfl (by decide +kernel)) (pi_list (pcal GC hr pass0 (pa_cons (pv 4) pa_nil))) (blkOk_by (own := [("_law_three", 11)]) (N := Nlaw) (sc := defScope s_law) (by decide +kernel)) (fun _ _ _ _ _ => pg_name (i := 11) sc_law.nd rfl (Or.inl rfl)) (fun _ _ _ _ _ => pts_one (pt_cmpR op_eq (pcal GD hr pass0 (pa_cons (pv 1) (pa_cons pe_int pa_nil))) pe_int (nomark _))) (fun _ _ _ _ _ => (pv 11))) (pss_cons 
  (ps_set (i := 6) sc_law.nd rfl (Or.inl rfl) (pe_tup (pa_cons (pv 4) (pa_cons (pcal GL hr pass0 (pa_cons (pv 4) (pa_cons (pv 5) pa_nil))) pa_nil)))) hu)), fun D σ H m k => ?_⟩
  obtain ⟨a, h, q, b, w1, ns, L, rfl, c⟩ := m
  have gb := c.gb
  refine ⟨_, rfl, b, ns, rfl, c.eb, gb, fun H3 z S3 nz Lz => ?_⟩
  have c3 := c.keep S3
  have h3 := c3.hh
  have eb3 := c3.eb
  obtain ⟨us3, eh3⟩ : ∃ us, H3 h = some (.lst us) := by
    obtain ⟨cs, i, r, t, e1, _⟩ := h3
    exact ⟨_, e1⟩
  have nzh := hand_free c.hh nz
  have nbh' := nbh h3 gb eb3
  obtain ⟨ps, e1, e2, e3⟩ := id Lz
  refine ⟨z, rfl, ⟨_, SqL.of e1⟩, fun D hD => ?_⟩
  refine lc_list (K := K) (a := z) (xs := ps.map V.ref) (fun i H4 => ∃ cs, GroH h q H3 H4 D cs ∧ cs.length ≤ i ∧ ∀ c ∈ cs, c ∈ A3 ns.length ns.length) ⟨[], GroH.nil h3 hD, Nat.le_refl _, fun c hc => by cases hc⟩ (fun i H4 _ ⟨cs, G, _⟩ => SqL.of (G.B _ _ nzh e1)) ?_ ?_
  · rintro i y H4 hy ⟨cs, G, lc, ca⟩
    rw [List.getElem?_map] at hy
    cases ea : ps[i]? with
    | none =>
      rw [ea] at hy
      cases hy
    | some a =>
      rw [ea] at hy
      obtain rfl : V.ref a = y := Option.some.inj hy
      have li := (List.getElem?_eq_some_iff.mp ea).1
      have el := List.getElem?_eq_getElem (l := (A3 ns.length ns.length).filter (isL ns)) (i := i) (by omega)
      have lt : i < 64 := by
        have := List.length_filter_le (isL ns) (A3 ns.length ns.length)
        have := A3_len _ gb.hi
        omega
      have mt := (List.mem_filter.mp (List.mem_of_getElem? el)).1
      generalize ((A3 ns.length ns.length).filter (isL ns))[i]'(by omega) = t at el mt
      have ha := e3 i a t ea el
      have ha4 : H4 a = some (.tup (t.map V.int)) := G.B _ _ (fun e => by rw [e, eh3] at ha; cases ha) ha
      refine ⟨rfl, _, rfl, h, q, 3, rfl, by decide, by decide, G.hh, fun u H5 u0 u1 B5 h5 => ⟨rfl, _, rfl, ?_⟩⟩
      have G5 := G.step B5 h5
      have ha5 : H5 a = some (.tup (t.map V.int)) := B5 _ _ (fun e => by rw [e, eh3] at ha; cases ha) ha4
      refine ifD (fun c => ?_) (fun c => ⟨cs, G5, by omega, ca⟩)
      obtain ⟨acc, q1, q2, q3⟩ := G5.app ha5
      refine ⟨_, rfl, acc, q1, by rw [q2]; exact small1000 (by omega), cs ++ [t], q3, by rw [List.length_append]; show _ + 1 ≤ _; omega, fun c hc => ?_⟩
      rcases List.mem_append.mp hc with hc | hc
      · exact ca c hc
      · rw [List.mem_singleton.mp hc]; exact mt
  · rintro H4 ⟨cs, G, lc, ca⟩
    obtain ⟨xs, ex, thr⟩ := lsts_thr G.l
    have c4 := c3.but G.B G.hh
    refine ⟨_, rfl, _, rfl, _, rfl, b, D, ns, xs, cs, rfl, c4.eb, gb, ex, thr, ca, fun H5 z5 po ro W5 => ?_⟩
    refine ⟨(by show 2 ≤ sizeLine; decide), fun x hx => ?_⟩
    have S6 := new_same (o := .tup [.ref b, .ref z5]) hx
    have W6 := W5.keep S6
    exact k _ _ ⟨a, h, q, b, w1, D, x, ns, L, _, rfl, c4.keep (W5.S.trans S6), W6.world (S6 _ _ (W5.S _ _ c4.eb)) upd_same, cl_brd gb ca⟩
theorem cl_both {ns : List Int} {L M : List (List Int)} {way : Int} (g : GoodB ns) (a : Cl ns L) (b : Cl ns M) : Cl ns (bothL ns way L M) := by
  unfold bothL
  split
  · exact cl_or g a b
  · exact cl_and g a b
theorem seg3 {fD fB : Addr} {fdD fdB : FuncData} (hr : Room 10 (XL P w K mg base f cdv A outer s H0 E0).A)
    (GD : Cal P w K mg base CX0 2 "_law_draw" fD fdD ["_law_hand_here", "_law_many"] spDraw) (GB : Cal P w K mg base CX0 3 "_law_both" fB fdB ["_law_one", "_law_other", "_law_way"] spBoth) :
    SegT (XL P w K mg base f cdv A outer s H0 E0) (cut 6 1) M6 M6 := by
  intro rest u hu
  refine ⟨_, (pss_cons 
  (ps_if (pt_cmpR op_eq (pcal GD hr pass0 (pa_cons (pv 1) (pa_cons pe_int pa_nil))) pe_int (nomark _)) (pss_one 
    (ps_set (i := 6) sc_law.nd rfl (Or.inl rfl) (pcal GB hr pass0 (pa_cons (pv 3) (pa_cons (pv 6) (pa_cons (pcal GD hr pass0 (pa_cons (pv 1) (pa_cons pe_int pa_nil))) pa_nil)))))) pss_nil) hu), fun D σ H m k => ?_⟩
  obtain ⟨a, h, q, b, w1, kz, w2, ns, L, M, rfl, c⟩ := m
  refine ⟨_, rfl, h, q, 3, rfl, by decide, by decide, c.hh, fun v H1 v0 v1 B1 h1 => ⟨rfl, _, rfl, ifD (fun cc => ?_) (fun cc => ?_)⟩⟩
  · have c1 := c.but B1 h1
    refine ⟨_, rfl, _, rfl, _, rfl, h, q, 2, rfl, by decide, by decide, c1.hh, fun way H2 y0 y1 B2 h2 => ?_⟩
    have c2 := c1.but B2 h2
    refine ⟨w1, w2, ns, L, M, way, rfl, c2.W, c2.W2, c2.gb, c2.cL, c2.cM, fun H3 z S3 W3 => ?_⟩
    exact k _ _ ⟨a, h, q, b, w1, kz, z, ns, L, _, rfl, c2.toWor.keep S3, W3, cl_both c2.gb c2.cL c2.cM⟩
  · exact k _ _ ⟨a, h, q, b, w1, kz, w2, ns, L, M, rfl, c.but B1 h1⟩
end
end J

set_option Elab.async false
set_option linter.all false
set_option maxRecDepth 100000
set_option maxHeartbeats 8000000
namespace J
open PySem PySem.Spec PyProof.Rows L2
theorem passAtL {X : Cx} (σ : L2.St) : PassesAt (L2.CX X.prog X.w) X σ ((fun _ => E0 : L2.St → XK) σ) := fun pins H s e s' I h => passL pins σ H s e s' I h
structure Bks (C CB h q b w1 w2 x y z : Addr) (ns : List Int) (L M : List (List Int)) (H : Hp) : Prop extends Wor2 h q b w1 w2 ns L M H where
  X : BookAt C CB H x ns L
  Y : BookAt C CB H y ns M
  Z : BookAt C CB H z ns (orL ns L M)
theorem Bks.keep {C CB h q b w1 w2 x y z : Addr} {ns : List Int} {L M : List (List Int)} {H H' : Hp} (c : Bks C CB h q b w1 w2 x y z ns L M H) (S : Same H H') : Bks C CB h q b w1 w2 x y z ns L M H' := ⟨c.toWor2.keep S, c.X.keep S, c.Y.keep S, c.Z.keep S⟩
theorem hand_at {H : Hp} {h q : Addr} (hh : Hand H h q) : ∃ us, H h = some (.lst us) := by
  obtain ⟨cs, i, r, t, e1, _⟩ := hh
  exact ⟨_, e1⟩
theorem Bks.but {C CB h q b w1 w2 x y z : Addr} {ns : List Int} {L M : List (List Int)} {H H' : Hp} (c : Bks C CB h q b w1 w2 x y z ns L M H) (B : But h H H') (h' : Hand H' h q) : Bks C CB h q b w1 w2 x y z ns L M H' := by
  obtain ⟨us, eh⟩ := hand_at c.hh
  exact ⟨c.toWor2.but B h', c.X.but eh B, c.Y.but eh B, c.Z.but eh B⟩
theorem BookAt.obj {C CB : Addr} {H : Hp} {x : Addr} {ns : List Int} {L : List (List Int)} (h : BookAt C CB H x ns L) : ∃ dx t b l r, H x = some (.ins CB dx (bf t b l r)) := by
  obtain ⟨dx, t, b, l, r, e, _⟩ := h
  exact ⟨dx, t, b, l, r, e⟩
def M10 (C CB : Addr) (σ : L2.St) (H : Hp) : Prop := ∃ (a h q b w1 kz w2 x y z : Addr) (ns : List Int) (L M : List (List Int)), σ = [some (.ref a), some (.ref h), some (.int (ns.length : Nat)), some (.ref w1), some (.ref b), some (.ref kz), some (.ref w2), some (.ref x), some (.ref y), some (.ref z), none, none, none, none, none, none, none, none, none, none, none] ∧ Bks C CB h q b w1 w2 x y z ns L M H
def M14 (C CB : Addr) (σ : L2.St) (H : Hp) : Prop := ∃ (a h q b w1 kz w2 x y z : Addr) (ns : List Int) (L M : List (List Int)) (wi : Bool) (v11 : Option V), σ = [some (.ref a), some (.ref h), some (.int (ns.length : Nat)), some (.ref w1), some (.ref b), some (.ref kz), some (.ref w2), some (.ref x), some (.ref y), some (.ref z), some (.bl wi), v11, none, none, none, none, none, none, none, none, none] ∧ Bks C CB h q b w1 w2 x y z ns L M H ∧ (wi = true ↔ ∀ t ∈ M, t ∈ L)
theorem and_or_self {ns : List Int} {L M : List (List Int)} (a : Cl ns L) : andL ns (orL ns L M) L = L := by
  conv => rhs; rw [← a.o]
  unfold andL orL
  refine List.filter_congr fun t ht => ?_
  cases c : inL L t with
  | false => rw [Bool.and_false]
  | true =>
    rw [Bool.and_true]
    exact inL_iff.mpr (List.mem_filter.mpr ⟨ht, by rw [c]; rfl⟩)
theorem and_in {ns : List Int} {L M : List (List Int)} {t : List Int} (ht : t ∈ andL ns L M) : t ∈ M := by
  have := (List.mem_filter.mp ht).2
  rw [Bool.and_eq_true, inL_iff, inL_iff] at this
  exact this.2
section
variable {P : Program} {w : World} {K : PySem.W.Frag} {mg : Str → Option Value} {base : Heap} {f : Addr} {cdv : Value} {A : Around} {outer : List Env} {s : Shared} {H0 : Hp} {E0' : XK}
theorem seg4 {C CB CO fB fO : Addr} {fdB fdO : FuncData} (hr : Room 10 (XL P w K mg base f cdv A outer s H0 E0').A) (GB : Cal P w K mg base CX0 8 "_law_book" fB fdB ["_law_hand_here", "_law_world"] (spLBook C CB))
    (FO : FnOk P w K mg base (L2.CX P w) 8 fO fdO ["self", "other"] (spTwo C CB CO orL)) (sO : PySem.W.findIn K (.ref CB) "__or__" = some (some (.ref fO))) (iO : PySem.W.isFn K (.ref fO) = true) (bO : Binds K fdO ["self", "other"] []) (sf : PySem.W.selfFirst K CB = true) :
    SegT (XL P w K mg base f cdv A outer s H0 E0') (cut 7 3) M6 (M10 C CB) := by
  intro rest u hu
  have hr8 : Room 8 _ := hr.mono (by decide)
  refine ⟨_, (pss_cons 
  (ps_set (i := 7) sc_law.nd rfl (Or.inl rfl) (pcal GB hr pass0 (pa_cons (pv 1) (pa_cons (pv 3) pa_nil)))) (pss_cons 
  (ps_set (i := 8) sc_law.nd rfl (Or.inl rfl) (pcal GB hr pass0 (pa_cons (pv 1) (pa_cons (pv 6) pa_nil)))) (pss_cons 
  (ps_set (i := 9) sc_law.nd rfl (Or.inl rfl) (pe_binOwn FO sO iO sf bO passAtL hr8 (pv 7) (pv 8))) hu))), fun D σ H m k => ?_⟩
  obtain ⟨a, h, q, b, w1, kz, w2, ns, L, M, rfl, c⟩ := m
  refine ⟨_, rfl, _, rfl, h, q, w1, ns, L, rfl, c.hh, c.W, c.gb, c.cL, fun H1 x B1 h1 nx X => ?_⟩
  have c1 := c.but B1 h1
  refine ⟨_, rfl, _, rfl, h, q, w2, ns, M, rfl, c1.hh, c1.W2, c1.gb, c1.cM, fun H2 y B2 h2 ny Y => ?_⟩
  have c2 := c1.but B2 h2
  obtain ⟨us, eh⟩ := hand_at c1.hh
  have X2 := X.but eh B2
  obtain ⟨dx, t, bb, l, r, ex⟩ := X2.obj
  obtain ⟨dy, t', bb', l', r', ey⟩ := Y.obj
  refine ⟨_, rfl, _, rfl, x, y, dx, _, dy, _, rfl, rfl, ex, ey, x, y, ns, ns, L, M, rfl, X2, Y, fun e => absurd rfl e, fun _ => ⟨c2.gb, c2.cL, c2.cM, fun H3 z S3 nz Z => ⟨⟨z, rfl⟩, ?_⟩⟩⟩
  exact k _ _ ⟨a, h, q, b, w1, kz, w2, x, y, z, ns, L, M, rfl, c2.keep S3, X2.keep S3, Y.keep S3, Z⟩
theorem seg5 {C CB CO fS fB fA : Addr} {fdS fdB fdA : FuncData} (hr : Room 10 (XL P w K mg base f cdv A outer s H0 E0').A) (GS : Cal P w K mg base CX0 4 "_law_same_barred" fS fdS ["_law_book_here", "_law_world"] (spLS C CB)) (GB : Cal P w K mg base CX0 3 "_law_both" fB fdB ["_law_one", "_law_other", "_law_way"] spBoth)
    (FA : FnOk P w K mg base (L2.CX P w) 8 fA fdA ["self", "other"] (spTwo C CB CO andL)) (sA : PySem.W.findIn K (.ref CB) "__and__" = some (some (.ref fA))) (iA : PySem.W.isFn K (.ref fA) = true) (bA : Binds K fdA ["self", "other"] []) (sf : PySem.W.selfFirst K CB = true) :
    SegT (XL P w K mg base f cdv A outer s H0 E0') (cut 10 2) (M10 C CB) (M10 C CB) := by
  intro rest u hu
  have hr8 : Room 8 _ := hr.mono (by decide)
  refine ⟨_, (pss_cons 
  (ps_if (pt_not (pt_val (pcal GS hr pass0 (pa_cons (pv 9) (pa_cons (pcal GB hr pass0 (pa_cons (pv 3) (pa_cons (pv 6) (pa_cons pe_int pa_nil)))) pa_nil))))) (pss_one 
    (ps_ret pe_bl)) pss_nil) (pss_cons 
  (ps_if (pt_not (pt_val (pcal GS hr pass0 (pa_cons (pe_binOwn FA sA iA sf bA passAtL hr8 (pv 7) (pv 8)) (pa_cons (pcal GB hr pass0 (pa_cons (pv 3) (pa_cons (pv 6) (pa_cons pe_int pa_nil)))) pa_nil))))) (pss_one 
    (ps_ret pe_bl)) pss_nil) hu)), fun D σ H m k => ?_⟩
  obtain ⟨a, h, q, b, w1, kz, w2, x, y, z, ns, L, M, rfl, c⟩ := m
  refine ⟨_, rfl, _, rfl, _, rfl, w1, w2, ns, L, M, 0, rfl, c.W, c.W2, c.gb, c.cL, c.cM, fun H1 v S1 W1 => ?_⟩
  have c1 := c.keep S1
  refine ⟨z, v, ns, orL ns L M, rfl, c1.Z, W1, c.gb, (cl_or c.gb c.cL c.cM).o, fun H2 S2 => ⟨_, rfl, iteF ?_⟩⟩
  have c2 := c1.keep S2
  obtain ⟨dx, t, bb, l, r, ex⟩ := c2.X.obj
  obtain ⟨dy, t', bb', l', r', ey⟩ := c2.Y.obj
  refine ⟨_, rfl, _, rfl, x, y, dx, _, dy, _, rfl, rfl, ex, ey, x, y, ns, ns, L, M, rfl, c2.X, c2.Y, fun e => absurd rfl e, fun _ => ⟨c2.gb, c2.cL, c2.cM, fun H3 z3 S3 nz Z => ⟨⟨z3, rfl⟩, ?_⟩⟩⟩
  have c3 := c2.keep S3
  refine ⟨_, rfl, _, rfl, w1, w2, ns, L, M, 1, rfl, c3.W, c3.W2, c.gb, c.cL, c.cM, fun H4 v4 S4 W4 => ?_⟩
  refine ⟨z3, v4, ns, andL ns L M, rfl, Z.keep S4, W4, c.gb, (cl_and c.gb c.cL c.cM).o, fun H5 S5 => ⟨_, rfl, iteF ?_⟩⟩
  exact k _ _ ⟨a, h, q, b, w1, kz, w2, x, y, z, ns, L, M, rfl, (c3.keep S4).keep S5⟩
theorem seg6 {C CB fB : Addr} {fdB : FuncData} (hr : Room 10 (XL P w K mg base f cdv A outer s H0 E0').A) (GB : Cal P w K mg base CX0 1 "_law_barred" fB fdB ["_law_world"] spLB) :
    SegT (XL P w K mg base f cdv A outer s H0 E0') (cut 12 2) (M10 C CB) (M14 C CB) := by
  intro rest u hu
  refine ⟨_, (pss_cons 
  (ps_set (i := 10) sc_law.nd rfl (Or.inl rfl) pe_bl) (pss_cons 
  (ps_for PassesOwn.never rfl (pi_list (pcal GB hr pass0 (pa_cons (pv 6) pa_nil))) (pg_name (i := 11) sc_law.nd rfl (Or.inl rfl)) (pss_one 
    (ps_if (pt_val (pe_ix ix_list (pe_ix ix_list (pe_ix ix_list (pe_ix ix_tup (pv 3) pe_int (fun _ _ => rfl)) (pe_ix ix_tup (pv 11) pe_int (fun _ _ => rfl)) (fun _ _ => rfl)) (pe_ix ix_tup (pv 11) pe_int (fun _ _ => rfl)) (fun _ _ => rfl)) (pe_ix ix_tup (pv 11) pe_int (fun _ _ => rfl)) (fun _ _ => rfl))) (pss_one 
      (ps_set (i := 10) sc_law.nd rfl (Or.inl rfl) pe_bl)) pss_nil))) hu)), fun D σ H m k => ?_⟩
  obtain ⟨a, h, q, b, w1, kz, w2, x, y, z, ns, L, M, rfl, c⟩ := m
  refine ⟨_, rfl, w2, ns, M, rfl, c.W2, c.gb, fun H1 v S1 nv Lv => ?_⟩
  rw [c.cM.o] at Lv
  have c1 := c.keep S1
  obtain ⟨ps, e1, e2, e3⟩ := id Lv
  obtain ⟨bw, zw, po, ro, x1, x2, x3, x4, x5⟩ := id c1.W
  refine ⟨v, rfl, ⟨_, SqL.of e1⟩, for_list (K := K) (a := v) (xs := ps.map V.ref) (fun i σ H2 => H1 = H2 ∧ ∃ (wi : Bool) (v11 : Option V), σ = [some (.ref a), some (.ref h), some (.int (ns.length : Nat)), some (.ref w1), some (.ref b), some (.ref kz), some (.ref w2), some (.ref x), some (.ref y), some (.ref z), some (.bl wi), v11, none, none, none, none, none, none, none, none, none] ∧ (wi = true ↔ ∀ t ∈ M.take i, t ∈ L))
    ⟨rfl, true, none, rfl, ⟨fun _ t ht => (by cases ht), fun _ => rfl⟩⟩ (fun i σ H2 _ ⟨e, _⟩ => by rw [← e]; exact SqL.of e1) ?_ ?_⟩
  · rintro i y' σ H2 hy ⟨rfl, wi, v11, rfl, hwi⟩
    rw [List.getElem?_map] at hy
    cases ea : ps[i]? with
    | none =>
      rw [ea] at hy
      cases hy
    | some a0 =>
      rw [ea] at hy
      obtain rfl : V.ref a0 = y' := Option.some.inj hy
      have li := (List.getElem?_eq_some_iff.mp ea).1
      have el : M[i]? = some M[i] := List.getElem?_eq_getElem (by omega)
      have mt := c.cM.sub _ (List.mem_of_getElem? el)
      generalize M[i] = t at el mt
      have ha := e3 i a0 t ea el
      obtain ⟨p, qq, r, hp, hq, hrr, et⟩ := A3_nat mt
      rw [et] at ha
      replace ha : H1 a0 = some (.tup [.int (p : Nat), .int (qq : Nat), .int (r : Nat)]) := ha
      have tk : M.take (i + 1) = M.take i ++ [t] := by rw [List.take_add_one, el]; rfl
      refine ⟨_, rfl, ?_⟩
      refine ⟨_, _, 1, _, rfl, rfl, SqT.of x1, at_of (j := 1) rfl rfl, ?_⟩
      refine ⟨_, rfl, ?_⟩
      refine ⟨_, _, 0, _, rfl, rfl, SqT.of ha, at_of (j := 0) rfl rfl, ?_⟩
      refine ⟨_, _, _, _, rfl, rfl, SqL.of x3, at_of (j := p) rfl (refs_at hp), ?_⟩
      refine ⟨_, rfl, ?_⟩
      refine ⟨_, _, 1, _, rfl, rfl, SqT.of ha, at_of (j := 1) rfl rfl, ?_⟩
      refine ⟨_, _, _, _, rfl, rfl, SqL.of (x4 p hp), at_of (j := qq) rfl (refs_at hq), ?_⟩
      refine ⟨_, rfl, ?_⟩
      refine ⟨_, _, 2, _, rfl, rfl, SqT.of ha, at_of (j := 2) rfl rfl, ?_⟩
      refine ⟨_, _, _, _, rfl, rfl, SqL.of (x5 p qq hp hq), at_of (j := r) rfl (bools_at hrr), ?_⟩
      refine ⟨_, rfl, ?_⟩
      by_cases cc : t ∈ L
      · refine if_fa (by unfold J.fB; rw [← et, decide_eq_true cc]; rfl) ⟨rfl, wi, _, rfl, ?_⟩
        rw [hwi, tk]
        refine ⟨fun g t' ht' => ?_, fun g t' ht' => g t' (List.mem_append_left _ ht')⟩
        rcases List.mem_append.mp ht' with q' | q'
        · exact g t' q'
        · rw [List.mem_singleton.mp q']; exact cc
      · refine if_tr (by unfold J.fB; rw [← et, decide_eq_false cc]; rfl) ⟨rfl, false, _, rfl, ⟨fun g => (by cases g), fun g => absurd (g t (by rw [tk]; exact List.mem_append_right _ List.mem_cons_self)) cc⟩⟩
  · rintro σ H2 ⟨rfl, wi, v11, rfl, hwi⟩
    rw [List.length_map, e2, List.take_length] at hwi
    exact k _ _ ⟨a, h, q, b, w1, kz, w2, x, y, z, ns, L, M, wi, v11, rfl, c1, hwi⟩
theorem seg7 {C CB CO fW fP fT : Addr} {fdW fdP fdT : FuncData} (hr : Room 10 (XL P w K mg base f cdv A outer s H0 E0').A) (GW : Cal P w K mg base (L2.CX P w) 2 "is_within" fW fdW ["one", "other"] (spWithin C CB CO))
    (GP : Cal P w K mg base CX0 1 "_law_plain" fP fdP ["_law_answer", "_law_due"] spP0) (GT : Cal P w K mg base CX0 8 "_law_threes_of_guests" fT fdT ["_law_one", "_law_other", "_law_either", "_law_worlds", "_law_within"] (spTG C CB)) :
    SegT (XL P w K mg base f cdv A outer s H0 E0') (cut 14 2) (M14 C CB) (M14 C CB) := by
  intro rest u hu
  refine ⟨_, (pss_cons 
  (ps_if (pt_not (pt_val (pcal GP hr pass0 (pa_cons (pcal GW hr passL (pa_cons (pv 7) (pa_cons (pv 8) pa_nil))) (pa_cons (pv 10) pa_nil))))) (pss_one 
    (ps_ret pe_bl)) pss_nil) (pss_cons 
  (ps_if (pt_not (pt_val (pcal GT hr pass0 (pa_cons (pv 7) (pa_cons (pv 8) (pa_cons (pv 9) (pa_cons (pe_lst (pa_cons (pv 3) (pa_cons (pv 6) pa_nil))) (pa_cons (pv 10) pa_nil)))))))) (pss_one 
    (ps_ret pe_bl)) pss_nil) hu)), fun D σ H m k => ?_⟩
  obtain ⟨a, h, q, b, w1, kz, w2, x, y, z, ns, L, M, wi, v11, rfl, c, hwi⟩ := m
  refine ⟨_, rfl, _, rfl, x, y, ns, ns, L, M, rfl, c.X, c.Y, fun e => absurd rfl e, fun _ => ⟨c.cM.len c.gb, fun H1 b1 S1 hb1 => ?_⟩⟩
  obtain rfl : b1 = wi := bool_eq hb1 hwi
  refine ⟨_, rfl, .inr ⟨b1, rfl⟩, _, rfl, iteF ?_⟩
  have c1 := c.keep S1
  refine ⟨_, rfl, _, rfl, _, rfl, _, rfl, _, rfl, (by show 2 ≤ sizeLine; decide), fun ws hws => ?_⟩
  have S2 := new_same (o := .lst [.ref w1, .ref w2]) hws
  have c2 := c1.keep S2
  refine ⟨_, rfl, x, y, z, ws, w1, w2, ns, L, M, b1, rfl, c2.X, c2.Y, c2.Z, upd_same, c2.W, c2.W2, c2.gb, c2.cL, c2.cM, hwi, fun H3 S3 => ⟨_, rfl, iteF ?_⟩⟩
  exact k _ _ ⟨a, h, q, b, w1, kz, w2, x, y, z, ns, L, M, b1, v11, rfl, c2.keep S3, hwi⟩
theorem seg8 {C CB CO fW fA fE : Addr} {fdW fdA fdE : FuncData} (hr : Room 10 (XL P w K mg base f cdv A outer s H0 E0').A) (GW : Cal P w K mg base (L2.CX P w) 2 "is_within" fW fdW ["one", "other"] (spWithin C CB CO))
    (FA : FnOk P w K mg base (L2.CX P w) 8 fA fdA ["self", "other"] (spTwo C CB CO andL)) (sA : PySem.W.findIn K (.ref CB) "__and__" = some (some (.ref fA))) (iA : PySem.W.isFn K (.ref fA) = true) (bA : Binds K fdA ["self", "other"] []) (sf : PySem.W.selfFirst K CB = true)
    (FE : FnOk P w K mg base CX0 2 fE fdE ["self", "other"] (spBEq C CB)) (aE : PySem.W.findIn K (.ref CB) "__eq__" = some (some (.ref fE))) (iE : PySem.W.isFn K (.ref fE) = true) (bE : Binds K fdE ["self", "other"] []) (nfT : PySem.W.notFirst K CB (.type "tuple") = true) :
    SegT (XL P w K mg base f cdv A outer s H0 E0') (cut 16 1) (M14 C CB) (M14 C CB) := by
  intro rest u hu
  have hr8 : Room 8 _ := hr.mono (by decide)
  have hr2 : Room 2 _ := hr.mono (by decide)
  refine ⟨_, (pss_cons 
  (ps_if (PW.pt (pw_or (pt_not (pt_val (pcal GW hr passL (pa_cons (pv 9) (pa_cons (pv 7) pa_nil))))) (pw_or (pt_not (pt_val (pcal GW hr passL (pa_cons (pv 8) (pa_cons (pe_binOwn FA sA iA sf bA passAtL hr8 (pv 7) (pv 8)) pa_nil))))) (pw_or1 (pt_not (pt_cmpR (op_eqOwn FE aE iE bE pass0 hr2 nfT) (pe_binOwn FA sA iA sf bA passAtL hr8 (pv 9) (pv 7)) (pv 7) (nomark _))))))) (pss_one 
    (ps_ret pe_bl)) pss_nil) hu), fun D σ H m k => ?_⟩
  obtain ⟨a, h, q, b, w1, kz, w2, x, y, z, ns, L, M, wi, v11, rfl, c, hwi⟩ := m
  have gb := c.gb
  refine ⟨_, rfl, _, rfl, z, x, ns, ns, orL ns L M, L, rfl, c.Z, c.X, fun e => absurd rfl e, fun _ => ⟨c.cL.len gb, fun H1 b1 S1 hb1 => ⟨_, rfl, if_fa (by rw [hb1.mpr fun t ht => List.mem_filter.mpr ⟨c.cL.sub t ht, by rw [inL_iff.mpr ht]; rfl⟩]; rfl) ?_⟩⟩⟩
  have c1 := c.keep S1
  obtain ⟨dx, t, bb, l, r, ex⟩ := c1.X.obj
  obtain ⟨dy, t', bb', l', r', ey⟩ := c1.Y.obj
  refine ⟨_, rfl, _, rfl, _, rfl, x, y, dx, _, dy, _, rfl, rfl, ex, ey, x, y, ns, ns, L, M, rfl, c1.X, c1.Y, fun e => absurd rfl e, fun _ => ⟨gb, c.cL, c.cM, fun H2 z2 S2 nz Z2 => ⟨⟨z2, rfl⟩, ?_⟩⟩⟩
  have c2 := c1.keep S2
  refine ⟨y, z2, ns, ns, M, andL ns L M, rfl, c2.Y, Z2, fun e => absurd rfl e, fun _ => ⟨(cl_and gb c.cL c.cM).len gb, fun H3 b3 S3 hb3 => ⟨_, rfl, if_fa (by rw [hb3.mpr fun t ht => and_in ht]; rfl) ?_⟩⟩⟩
  have c3 := c2.keep S3
  obtain ⟨dx3, t3, bb3, l3, r3, ex3⟩ := c3.X.obj
  obtain ⟨dz3, t3', bb3', l3', r3', ez3⟩ := c3.Z.obj
  refine ⟨_, rfl, _, rfl, z, x, dz3, _, dx3, _, rfl, rfl, ez3, ex3, z, x, ns, ns, orL ns L M, L, rfl, c3.Z, c3.X, fun e => absurd rfl e, fun _ => ⟨gb, cl_or gb c.cL c.cM, c.cL, fun H4 z4 S4 nz4 Z4 => ⟨⟨z4, rfl⟩, ?_⟩⟩⟩
  have c4 := c3.keep S4
  rw [and_or_self c.cL] at Z4
  obtain ⟨d4, t4, bb4, l4, r4, e4⟩ := Z4.obj
  obtain ⟨dx4, t4', bb4', l4', r4', ex4⟩ := c4.X.obj
  refine ⟨_, rfl, z4, x, d4, _, rfl, rfl, e4, .inl ⟨_, _, ex4⟩, z4, .ref x, ns, L, rfl, Z4, .inl ⟨x, ns, L, rfl, c4.X, ⟨⟨_, rfl⟩, _, rfl, if_fa (by rw [decide_eq_true ⟨rfl, rfl⟩]; rfl) ?_⟩⟩⟩
  exact k _ _ ⟨a, h, q, b, w1, kz, w2, x, y, z, ns, L, M, wi, v11, rfl, c4, hwi⟩
end
end J

set_option Elab.async false
set_option linter.all false
set_option maxRecDepth 100000
set_option maxHeartbeats 8000000
namespace J
open PySem PySem.Spec PyProof.Rows L2
theorem lines_ne {H : Hp} {h q T : Addr} {ps : List Addr} {f : Nat → Nat → Int} {n : Nat} (hh : Hand H h q) (l : LinesAt H T ps (tabOf f n)) (hn : 0 < n) : T ≠ h ∧ ∀ (j : Nat) (a : Addr), ps[j]? = some a → a ≠ h := by
  obtain ⟨cs, i, r, t, e1, _⟩ := hh
  have pl := l.2.1
  rw [tabOf_len] at pl
  refine ⟨fun z => ?_, fun j a ea z => ?_⟩
  · have eT := l.1
    rw [z, e1] at eT
    have eT := HO.lst.inj (Option.some.inj eT)
    have q1 : (ps.map V.ref)[1]? = ([V.ref q, V.int i, V.int r, V.int t] : List V)[1]? := by rw [eT]
    rw [List.getElem?_map] at q1
    cases c : ps[1]? with
    | none => rw [c] at q1; cases q1
    | some u => rw [c] at q1; cases q1
  · have hj : j < n := by have := (List.getElem?_eq_some_iff.mp ea).1; omega
    have e2 := (l.2.2 j a _ ea (tabOf_at hj)).2
    rw [z, e1] at e2
    have e2 := HO.lst.inj (Option.some.inj e2)
    have q1 : ((List.range n).map (f j)).map V.int = [V.ref q, V.int i, V.int r, V.int t] := e2.symm
    have q2 := row_at (f := f) (a := j) hn
    rw [q1] at q2
    cases q2
theorem lines_but {H H' : Hp} {h q T : Addr} {ps : List Addr} {f : Nat → Nat → Int} {n : Nat} (hh : Hand H h q) (l : LinesAt H T ps (tabOf f n)) (hn : 0 < n) (B : But h H H') : LinesAt H' T ps (tabOf f n) := by
  obtain ⟨nT, nr⟩ := lines_ne hh l hn
  exact ⟨B _ _ nT l.1, l.2.1, fun j a ts e1 e2 => ⟨(l.2.2 j a ts e1 e2).1, B _ _ (nr j a e1) (l.2.2 j a ts e1 e2).2⟩⟩
def M17 (C CB : Addr) (σ : L2.St) (H : Hp) : Prop := ∃ (a h q b w1 kz w2 x y z : Addr) (ns : List Int) (L M : List (List Int)) (wi : Bool) (v11 v12 v13 v14 : Option V), σ = [some (.ref a), some (.ref h), some (.int (ns.length : Nat)), some (.ref w1), some (.ref b), some (.ref kz), some (.ref w2), some (.ref x), some (.ref y), some (.ref z), some (.bl wi), v11, v12, v13, v14, none, none, none, none, none, none] ∧ Bks C CB h q b w1 w2 x y z ns L M H
def M20 (C CB : Addr) (σ : L2.St) (H : Hp) : Prop := ∃ (a h q b w1 kz w2 x y z : Addr) (ns : List Int) (L M : List (List Int)) (wi : Bool) (v11 v12 v13 v14 v15 v16 : Option V), σ = [some (.ref a), some (.ref h), some (.int (ns.length : Nat)), some (.ref w1), some (.ref b), some (.ref kz), some (.ref w2), some (.ref x), some (.ref y), some (.ref z), some (.bl wi), v11, v12, v13, v14, v15, v16, none, none, none, none] ∧ Bks C CB h q b w1 w2 x y z ns L M H
section
variable {P : Program} {w : World} {K : PySem.W.Frag} {mg : Str → Option Value} {base : Heap} {f : Addr} {cdv : Value} {A : Around} {outer : List Env} {s : Shared} {H0 : Hp} {E0' : XK}
theorem seg9 {C CC CB CO fP fD fC fB fL fI fN : Addr} {fdP fdD fdC fdB fdL fdI fdN : FuncData} (hr : Room 10 (XL P w K mg base f cdv A outer s H0 E0').A) (nl : mg "len" = none) (nr : mg "range" = none) (cb : BoC K CB)
    (GP : Cal P w K mg base CX0 3 "_law_pick" fP fdP ["_law_hand_here", "_law_things"] spPick) (GD : Cal P w K mg base CX0 3 "_law_drawn_table" fD fdD ["_law_hand_here", "_law_backs_here", "_law_size"] spDT)
    (GC : Cal P w K mg base CX0 7 "_law_company" fC fdC ["_law_backs_here", "_law_labels_here", "_law_table"] (spLComp C CC)) (GB : Cal P w K mg base CX0 3 "_law_labels" fB fdB ["_law_hand_here", "_law_many"] spLabels)
    (GL : Mt P w K mg base (L2.CX P w) 3 CB "lets" fL fdL ["self", "company"] (spLets C CC CB CO)) (GI : Cal P w K mg base CX0 1 "_law_fits" fI fdI ["_law_world", "_law_table"] spFits) (GN : Cal P w K mg base CX0 1 "_law_plain" fN fdN ["_law_answer", "_law_due"] spP0) :
    SegT (XL P w K mg base f cdv A outer s H0 E0') (cut 17 1) (M14 C CB) (M17 C CB) := by
  intro rest u hu
  refine ⟨_, (pss_cons 
  (ps_for PassesOwn.never rfl (pi_range1 (by rfl) nr (pa_cons pe_int pa_nil)) (pg_name (i := 12) sc_law.nd rfl (Or.inl rfl)) (pss_cons 
    (ps_set (i := 13) sc_law.nd rfl (Or.inl rfl) (pcal GD hr pass0 (pa_cons (pv 1) (pa_cons (pv 4) (pa_cons (pcal GP hr pass0 (pa_cons (pv 1) (pa_cons (pe_lst (pa_cons pe_int (pa_cons pe_int (pa_cons pe_int pa_nil)))) pa_nil))) pa_nil))))) (pss_cons 
    (ps_set (i := 14) sc_law.nd rfl (Or.inl rfl) (pcal GC hr pass0 (pa_cons (pv 4) (pa_cons (pcal GB hr pass0 (pa_cons (pv 1) (pa_cons (pe_callB call_len_seq (by rfl) nl PySem.boot_len (pa_cons (pv 13) pa_nil)) pa_nil))) (pa_cons (pv 13) pa_nil))))) (pss_one 
    (ps_if (pt_not (pt_val (pcal GN hr pass0 (pa_cons (pe_meth (pv 9) cb.cl GL.M GL.F (hr.mono (by decide)) GL.b .nil passL (pa_cons (pv 14) pa_nil)) (pa_cons (pe_and (pcal GI hr pass0 (pa_cons (pv 3) (pa_cons (pv 13) pa_nil))) (pe_one (pcal GI hr pass0 (pa_cons (pv 6) (pa_cons (pv 13) pa_nil))))) pa_nil))))) (pss_one 
      (ps_ret pe_bl)) pss_nil))))) hu), fun D σ H m k => ?_⟩
  obtain ⟨a, h, q, b, w1, kz, w2, x, y, z, ns, L, M, wi, v11, rfl, c, hwi⟩ := m
  refine ⟨2, rfl, by decide, by decide, for_range (lo := 0) (n := 2) (fun i σ H' => ∃ (v11 v12 v13 v14 : Option V), σ = [some (.ref a), some (.ref h), some (.int (ns.length : Nat)), some (.ref w1), some (.ref b), some (.ref kz), some (.ref w2), some (.ref x), some (.ref y), some (.ref z), some (.bl wi), v11, v12, v13, v14, none, none, none, none, none, none] ∧ Bks C CB h q b w1 w2 x y z ns L M H')
    ⟨_, _, _, _, rfl, c⟩ ?_ ?_⟩
  · rintro i σ H1 hi ⟨v11, v12, v13, v14, rfl, c1⟩
    have gb := c1.gb
    refine ⟨_, rfl, _, rfl, _, rfl, (by show 3 ≤ sizeLine; decide), fun l hl => ?_⟩
    have S1 := new_same (o := .lst [.int 3, .int 4, .int 5]) hl
    have c2 := c1.keep S1
    refine ⟨h, q, l, _, rfl, c2.hh, hand_free c1.hh hl, upd_same, (by show 0 < 3; decide), (by show 3 ≤ 1000; decide), fun H2 y' my B2 h2 => ?_⟩
    have c3 := c2.but B2 h2
    obtain ⟨n, rfl, n3, n5⟩ : ∃ n : Nat, y' = .int (n : Nat) ∧ 3 ≤ n ∧ n ≤ 5 := by
      simp only [List.mem_cons, List.not_mem_nil, or_false] at my
      rcases my with rfl | rfl | rfl
      · exact ⟨3, rfl, by decide, by decide⟩
      · exact ⟨4, rfl, by decide, by decide⟩
      · exact ⟨5, rfl, by decide, by decide⟩
    refine ⟨h, q, b, ns, n, rfl, c3.hh, c3.eb, gb, by omega, by omega, fun H3 T ps f B3 h3 nT lT ce => ?_⟩
    have c4 := c3.but B3 h3
    have pl := lT.2.1
    rw [tabOf_len] at pl
    refine ⟨_, rfl, _, rfl, _, rfl, T, _, rfl, .inl (SqL.of lT.1), ?_⟩
    refine ⟨h, q, n, (by rw [List.length_map, pl]; rfl), by omega, c4.hh, fun H4 la is il asc labs B4 h4 nla ela => ?_⟩
    have c5 := c4.but B4 h4
    have lT4 := lines_but c4.hh lT (by omega) B4
    refine ⟨_, rfl, b, la, T, ps, f, ns, is, rfl, c5.eb, gb, ela, asc, labs, by omega, (by rw [il]; exact lT4), fun a c ha hc => (by rw [il] at ha; exact (ce a c ha (by omega) (by omega)).1), fun H5 cc S5 hC => ?_⟩
    have c6 := c5.keep S5
    have lT5 := lT4.keep S5
    rw [il] at hC
    obtain ⟨dz, t, bb, ll, r, ez⟩ := c6.Z.obj
    refine ⟨_, rfl, z, dz, _, rfl, ez, bf_no _ _ _ _ (by decide +kernel) (by decide +kernel) (by decide +kernel) (by decide +kernel), _, rfl, z, cc, ns, ns, is, orL ns L M, rowsT f n, f, rfl, c6.Z, hC, fun e => absurd rfl e, fun _ => ?_⟩
    rw [il]
    refine ⟨cellF_of ce, ce, fun c0 H6 hc0 S6 => ?_⟩
    have c7 := c6.keep S6
    rw [or_noB ce] at hc0
    refine ⟨_, rfl, _, rfl, w1, T, ns, L, ps, f, n, rfl, c7.W, lT5.keep S6, by omega, gb, ce, fun b1 hb1 => ?_⟩
    rw [noK_noB gb c7.cL ce] at hb1
    cases b1 with
    | false =>
      have e0 : c0 = false := Bool.eq_false_iff.mpr fun q => by cases hb1.mpr (hc0.mp q).1
      subst e0
      refine ⟨_, rfl, iteF ⟨.inr ⟨_, rfl⟩, _, rfl, iteF ?_⟩⟩
      exact ⟨_, _, _, _, rfl, c7⟩
    | true =>
      refine ⟨_, rfl, iteT ?_⟩
      refine ⟨_, rfl, _, rfl, w2, T, ns, M, ps, f, n, rfl, c7.W2, lT5.keep S6, by omega, gb, ce, fun b2 hb2 => ?_⟩
      rw [noK_noB gb c7.cM ce] at hb2
      obtain rfl : c0 = b2 := bool_eq hc0 (by rw [hb2]; exact ⟨fun g => ⟨hb1.mp rfl, g⟩, fun g => g.2⟩)
      refine ⟨.inr ⟨_, rfl⟩, _, rfl, iteF ?_⟩
      exact ⟨_, _, _, _, rfl, c7⟩
  · rintro σ H1 ⟨v11, v12, v13, v14, rfl, c1⟩
    exact k _ _ ⟨a, h, q, b, w1, kz, w2, x, y, z, ns, L, M, wi, v11, v12, v13, v14, rfl, c1⟩
theorem seg10 {C CB CE CF fO fT fI fJ dv : Addr} {fdO fdT fdI fdJ : FuncData} (hr : Room 10 (XL P w K mg base f cdv A outer s H0 E0').A) (nr : mg "range" = none) (GO : Cal P w K mg base CX0 4 "_law_other_backs" fO fdO ["_law_hand_here", "_law_backs_here"] spOB)
    (mT : mg "Ties" = some (.ref C)) (MJ : Mk K C fJ) (FJ : FnOk P w K mg base (L2.CX P w) 4 fJ fdJ ["self", "backs"] (spTies C CF)) (bJ : Binds K fdJ ["self", "backs"] [])
    (mB : mg "Book" = some (.ref CB)) (MI : Mk K CB fI) (FI : FnOk P w K mg base (L2.CX P w) 6 fI fdI ["self", "ties", "barred"] (spBI K C CB CE)) (bI0 : Binds K fdI ["self", "ties", "barred"] [.ref dv]) (kt : KT K dv)
    (GT : Cal P w K mg base CX0 9 "_law_other_ties" fT fdT ["_law_one", "_law_strange", "_law_way"] (spOT C CB)) :
    SegT (XL P w K mg base f cdv A outer s H0 E0') (cut 18 2) (M17 C CB) (M20 C CB) := by
  intro rest u hu
  have hr7 : Room 7 _ := hr.mono (by decide)
  have hdv : Vals [V.ref dv] [Value.ref dv] := .cons rfl .nil
  have hr5 : Room 5 _ := hr.mono (by decide)
  refine ⟨_, (pss_cons 
  (ps_set (i := 15) sc_law.nd rfl (Or.inl rfl) (pe_make MI FI hr7 rfl mB bI0 hdv passL (pa_cons (pe_make MJ FJ hr5 rfl mT bJ .nil passL (pa_cons (pcal GO hr pass0 (pa_cons (pv 1) (pa_cons (pv 4) pa_nil))) pa_nil)) pa_nil))) (pss_cons 
  (ps_for PassesOwn.never rfl (pi_range1 (by rfl) nr (pa_cons pe_int pa_nil)) (pg_name (i := 16) sc_law.nd rfl (Or.inl rfl)) (pss_one 
    (ps_if (pt_not (pt_val (pcal GT hr pass0 (pa_cons (pv 7) (pa_cons (pv 15) (pa_cons (pv 16) pa_nil)))))) (pss_one 
      (ps_ret pe_bl)) pss_nil))) hu)), fun D σ H m k => ?_⟩
  obtain ⟨a, h, q, b, w1, kz, w2, x, y, z, ns, L, M, wi, v11, v12, v13, v14, rfl, c⟩ := m
  refine ⟨_, rfl, _, rfl, h, q, b, ns, rfl, c.hh, c.eb, c.gb, fun H1 o ms B1 h1 eo gm ne => ?_⟩
  have c1 := c.but B1 h1
  refine mk_ties (s := .lst (ms.map V.int)) ⟨o, rfl, eo⟩ gm rfl rfl fun H2 t S2 nt TT => ⟨rfl, ?_⟩
  refine mk_book0 TT gm kt fun H3 st S3 nst Bst => ⟨rfl, ?_⟩
  have c3 := (c1.keep S2).keep S3
  refine ⟨3, rfl, by decide, by decide, for_range (lo := 0) (n := 3) (fun i σ H' => H3 = H' ∧ ∃ v16 : Option V, σ = [some (.ref a), some (.ref h), some (.int (ns.length : Nat)), some (.ref w1), some (.ref b), some (.ref kz), some (.ref w2), some (.ref x), some (.ref y), some (.ref z), some (.bl wi), v11, v12, v13, v14, some (.ref st), v16, none, none, none, none])
    ⟨rfl, _, rfl⟩ ?_ ?_⟩
  · rintro i σ H4 hi ⟨rfl, v16, rfl⟩
    refine ⟨_, rfl, _, rfl, _, rfl, x, st, ns, ms, L, [], _, rfl, c3.X, Bst, Ne.symm ne, ⟨_, rfl, iteF ?_⟩⟩
    exact ⟨rfl, _, rfl⟩
  · rintro σ H4 ⟨rfl, v16, rfl⟩
    exact k _ _ ⟨a, h, q, b, w1, kz, w2, x, y, z, ns, L, M, wi, v11, v12, v13, v14, _, v16, rfl, c3⟩
end
end J

set_option Elab.async false
set_option linter.all false
set_option maxRecDepth 100000
set_option maxHeartbeats 8000000
namespace J
open PySem PySem.Spec PyProof.Rows L2
theorem min_eq {ns : List Int} {p q r p' q' r' : Int} {t t' : List Int} (g : GoodB ns) (ip : InT ns p) (iq : InT ns q) (ir : InT ns r) (ip' : InT ns p') (iq' : InT ns q') (ir' : InT ns r') (ht : t ∈ six ns p q r) (hm : ∀ u ∈ six ns p q r, TS.code 4 t ≤ TS.code 4 u)
    (ht' : t' ∈ six ns p' q' r') (hm' : ∀ u ∈ six ns p' q' r', TS.code 4 t' ≤ TS.code 4 u) : t' = t ↔ inR ns [p', q', r'] [p, q, r] = true := by
  have i1 : inR ns t [p, q, r] = true := decide_eq_true ht
  have i2 : inR ns t' [p', q', r'] = true := decide_eq_true ht'
  constructor
  · rintro rfl
    exact inR_trans g (in_A3 ip iq ir) (inR_swap g (in_A3 ip' iq' ir') i2) i1
  · intro h
    have h' : [p', q', r'] ∈ six ns p q r := of_decide_eq_true h
    have ss := six_same g ip iq ir h'
    have c1 := hm t' ((ss t').mp ht')
    have c2 := hm' t ((ss t).mpr ht)
    obtain ⟨l1, b1⟩ := six_bd g ip iq ir t ht
    obtain ⟨l2, b2⟩ := six_bd g ip' iq' ir' t' ht'
    exact code_inj (by rw [l1, l2]) b2 b1 (Int.le_antisymm c2 c1)
def butF (ns : List Int) (c : List Int) : List Int → Bool := fun u => !inR ns u c
theorem brd_but {ns : List Int} {L : List (List Int)} {c : List Int} (g : GoodB ns) (a : Cl ns L) (hc : c ∈ A3 ns.length ns.length) : brd ns (L.filter (butF ns c)) = butL ns L c := by
  rw [← show _ = butL ns L c from brd_closed g (but_cl g a hc)]
  refine brd_same fun u => ?_
  rw [List.mem_filter, List.mem_filter, Bool.and_eq_true, inL_iff]
  exact ⟨fun h => ⟨a.sub u h.1, h⟩, fun h => h.2⟩
theorem brd_butc {ns : List Int} {L : List (List Int)} {c : List Int} (g : GoodB ns) (a : Cl ns L) (hc : c ∈ A3 ns.length ns.length) : brd ns (L.filter (butF ns c) ++ [c]) = addL ns L c := by
  rw [← show _ = addL ns L c from brd_closed g (add_cl g a hc)]
  refine brd_eq g (fun u hu => ?_) (fun u hu => (List.mem_filter.mp hu).1) fun t ht => ?_
  · rcases List.mem_append.mp hu with q | q
    · exact a.sub u (List.mem_filter.mp q).1
    · rw [List.mem_singleton.mp q]; exact hc
  · constructor
    · rintro ⟨u, hu, e⟩
      rcases List.mem_append.mp hu with q | q
      · have q1 := (List.mem_filter.mp q).1
        exact ⟨u, List.mem_filter.mpr ⟨a.sub u q1, by rw [Bool.or_eq_true, inL_iff]; exact .inl q1⟩, e⟩
      · rw [List.mem_singleton.mp q] at e
        exact ⟨c, List.mem_filter.mpr ⟨hc, by rw [Bool.or_eq_true, inR_self hc]; exact .inr rfl⟩, e⟩
    · rintro ⟨u, hu, e⟩
      obtain ⟨h1, h2⟩ := List.mem_filter.mp hu
      rw [Bool.or_eq_true, inL_iff] at h2
      by_cases cc : inR ns u c = true
      · exact ⟨c, List.mem_append_right _ List.mem_cons_self, inR_trans g hc e cc⟩
      · rcases h2 with q | q
        · exact ⟨u, List.mem_append_left _ (List.mem_filter.mpr ⟨q, by unfold butF; rw [Bool.eq_false_iff.mpr cc]; rfl⟩), e⟩
        · exact absurd q cc
def M23 (C CB : Addr) (σ : L2.St) (H : Hp) : Prop := ∃ (a h q b w1 kz w2 x y z T le D : Addr) (ns : List Int) (L M : List (List Int)) (wi : Bool) (v12 v13 v14 v15 v16 : Option V) (p q' r : Nat), σ = [some (.ref a), some (.ref h), some (.int (ns.length : Nat)), some (.ref w1), some (.ref b), some (.ref kz), some (.ref w2), some (.ref x), some (.ref y), some (.ref z), some (.bl wi), some (.ref T), v12, v13, v14, v15, v16, some (.ref le), some (.ref D), none, none] ∧ Bks C CB h q b w1 w2 x y z ns L M H ∧
  p < ns.length ∧ q' < ns.length ∧ r < ns.length ∧ H T = some (.tup [.int (p : Nat), .int (q' : Nat), .int (r : Nat)]) ∧ LstsAt H D (L.filter (butF ns [(p : Int), (q' : Int), (r : Int)])) ∧ D ≠ h
section
variable {P : Program} {w : World} {K : PySem.W.Frag} {mg : Str → Option Value} {base : Heap} {f : Addr} {cdv : Value} {A : Around} {outer : List Env} {s : Shared} {H0 : Hp} {E0' : XK}
theorem seg11 {C CB fD fR fB : Addr} {fdD fdR fdB : FuncData} (hr : Room 10 (XL P w K mg base f cdv A outer s H0 E0').A) (nr : mg "range" = none) (nt : mg "tuple" = none) (nm : mg "min" = none) (GD : Cal P w K mg base CX0 2 "_law_draw" fD fdD ["_law_hand_here", "_law_many"] spDraw)
    (GR : Cal P w K mg base CX0 1 "_law_readings" fR fdR ["_law_backs_here", "_law_p", "_law_q", "_law_r"] spLR) (GB : Cal P w K mg base CX0 1 "_law_barred" fB fdB ["_law_world"] spLB) :
    SegT (XL P w K mg base f cdv A outer s H0 E0') (cut 20 3) (M20 C CB) (M23 C CB) := by
  intro rest u hu
  refine ⟨_, (pss_cons 
  (ps_set (i := 11) sc_law.nd rfl (Or.inl rfl) (pe_callTy (T := "tuple") (r := rTup K) call_tuple_of (by rfl) nt (by decide +kernel) (pa_cons (pe_lc (own := [("_law_k", 12)]) (g := gName 12) (by rfl) sc_law.nd (pi_range1 (by rfl) nr (pa_cons pe_int pa_nil)) (blkOk_by (own := [("_law_k", 12)]) (N := Nlaw) (sc := defScope s_law) (by decide +kernel)) (fun _ _ _ _ _ => pg_name (i := 12) sc_law.nd rfl (Or.inl rfl)) (fun _ _ _ _ _ => pts_nil) (fun _ _ _ _ _ => (pcal GD hr pass0 (pa_cons (pv 1) (pa_cons (pv 2) pa_nil))))) pa_nil))) (pss_cons 
  (ps_set (i := 17) sc_law.nd rfl (Or.inr rfl) (pe_callB (r := rMinT) (cr_minT rfl hr.units) (by rfl) nm (by decide +kernel) (pa_cons (pcal GR hr pass0 (pa_cons (pv 4) (pa_cons (pe_ix ix_tup (pv 11) pe_int (fun _ _ => rfl)) (pa_cons (pe_ix ix_tup (pv 11) pe_int (fun _ _ => rfl)) (pa_cons (pe_ix ix_tup (pv 11) pe_int (fun _ _ => rfl)) pa_nil))))) pa_nil))) (pss_cons 
  (ps_setLc (i := 18) (own := [("_law_row", 20)]) (g := gName 20) rfl sc_law.nd rfl rfl (sw_true rfl rfl rfl (by decide +kernel)) (pi_list (pcal GB hr pass0 (pa_cons (pv 3) pa_nil))) (blkOk_by (own := [("_law_row", 20)]) (N := Nlaw) (sc := defScope s_law) (by decide +kernel)) (fun _ _ _ _ _ => pg_name (i := 20) sc_law.nd rfl (Or.inl rfl)) (fun _ _ _ _ _ => pts_one (pt_cmpR (r := rNeD K) (op_neD hr.units) (pe_callB (id := "min") (r := rMinT) (cr_minT rfl hr.units) (by rfl) nm (by decide +kernel) (pa_cons (pcal GR hr pass0 (pa_cons (pv 4) (pa_cons (pe_ix (r := rIxT K) ix_tup (pv 20) pe_int (fun _ _ => rfl)) (pa_cons (pe_ix (r := rIxT K) ix_tup (pv 20) pe_int (fun _ _ => rfl)) (pa_cons (pe_ix (r := rIxT K) ix_tup (pv 20) pe_int (fun _ _ => rfl)) pa_nil))))) pa_nil)) (pv 17) (nomark _))) (fun _ _ _ _ _ => (pv 20))) hu))), fun D0 σ H m k => ?_⟩
  obtain ⟨a, h, q, b, w1, kz, w2, x, y, z, ns, L, M, wi, v11, v12, v13, v14, v15, v16, rfl, c⟩ := m
  have gb := c.gb
  have npos : 0 < ns.length := by have := gb.lo; omega
  have h4 := gb.hi
  refine ⟨3, rfl, by decide, by decide, fun D hD => ?_⟩
  obtain ⟨nD, nDq⟩ := c.hh.same_h' hD
  refine lc_range (lo := 0) (n := 3) (fun i H1 => But h H H1 ∧ Hand H1 h q ∧ ∃ ts : List Nat, H1 D = some (.lst (ts.map fun t : Nat => V.int (t : Nat))) ∧ ts.length = i ∧ ∀ t ∈ ts, t < ns.length) ⟨But.new hD, c.hh.new hD, [], upd_same, rfl, fun t ht => by cases ht⟩ ?_ ?_
  · rintro i H1 hi ⟨B1, h1, ts, eD, tl, tr⟩
    refine ⟨rfl, yesT ?_⟩
    refine ⟨_, rfl, _, rfl, h, q, (ns.length : Nat), rfl, by omega, by omega, h1, fun v H2 v0 v1 B2 h2 => ?_⟩
    have eD2 := B2 _ _ nD eD
    refine ⟨_, eD2, small1000 (by rw [List.length_map]; omega), (B1.trans B2).put2 hD, h2.put nD.symm nDq.symm, ts ++ [v.toNat], ?_, by rw [List.length_append, tl]; rfl, fun t ht => ?_⟩
    · rw [upd_same, List.map_append]
      show some (HO.lst (_ ++ [V.int v])) = some (HO.lst (_ ++ [V.int (v.toNat : Nat)]))
      rw [Int.toNat_of_nonneg v0]
    · rcases List.mem_append.mp ht with ht | ht
      · exact tr t ht
      · rw [List.mem_singleton.mp ht]; omega
  rintro H1 ⟨B1, h1, ts, eD, tl, tr⟩
  obtain ⟨p, q', r, rfl⟩ : ∃ p q' r, ts = [p, q', r] := by
    match ts, tl with
    | [p, q', r], _ => exact ⟨p, q', r, rfl⟩
  have hp := tr p (by simp)
  have hq := tr q' (by simp)
  have hrr := tr r (by simp)
  clear tr tl
  have c1 := c.but B1 h1
  refine ⟨D, _, rfl, .inl ⟨SqL.of eD, fun T hT => ?_⟩⟩
  have S2 := new_same (o := .tup [.int (p : Nat), .int (q' : Nat), .int (r : Nat)]) hT
  have eT : (upd H1 T (.tup [.int (p : Nat), .int (q' : Nat), .int (r : Nat)])) T = some (.tup [.int (p : Nat), .int (q' : Nat), .int (r : Nat)]) := upd_same
  have c2 := c1.keep S2
  show _
  refine ⟨_, rfl, ?_⟩
  replace eT : (upd H1 T (.tup (List.map (fun t : Nat => V.int (t : Nat)) [p, q', r]))) T = some (.tup [.int (p : Nat), .int (q' : Nat), .int (r : Nat)]) := eT
  replace c2 : Bks C CB h q b w1 w2 x y z ns L M (upd H1 T (.tup (List.map (fun t : Nat => V.int (t : Nat)) [p, q', r]))) := c2
  generalize upd H1 T (.tup (List.map (fun t : Nat => V.int (t : Nat)) [p, q', r])) = H2 at eT c2 ⊢
  have ip : InT ns (p : Int) := ⟨by omega, by omega⟩
  have iq : InT ns (q' : Int) := ⟨by omega, by omega⟩
  have ir : InT ns (r : Int) := ⟨by omega, by omega⟩
  refine ⟨_, rfl, ?_⟩
  refine ⟨_, _, 0, _, rfl, rfl, SqT.of eT, at_of (j := 0) rfl rfl, ?_⟩
  refine ⟨_, rfl, ?_⟩
  refine ⟨_, _, 1, _, rfl, rfl, SqT.of eT, at_of (j := 1) rfl rfl, ?_⟩
  refine ⟨_, rfl, ?_⟩
  refine ⟨_, _, 2, _, rfl, rfl, SqT.of eT, at_of (j := 2) rfl rfl, ?_⟩
  refine ⟨b, ns, p, q', r, rfl, c2.eb, gb, hp, hq, hrr, fun H3 z3 S3 nz3 L3 => ?_⟩
  refine ⟨z3, _, rfl, L3, (by show 0 < 6; decide), fun t ht => six_bd gb ip iq ir t ht, fun le t mt hmin et => ?_⟩
  have c3 := c2.keep S3
  refine ⟨_, rfl, w1, ns, L, rfl, c3.W, gb, fun H4 v S4 nv Lv => ?_⟩
  rw [c.cL.o] at Lv
  have c4 := c3.keep S4
  have et4 := S4 _ _ et
  have eT4 := S4 _ _ (S3 _ _ eT)
  obtain ⟨ps, e1, e2, e3⟩ := id Lv
  have lL := c.cL.len gb
  refine ⟨v, rfl, ⟨_, SqL.of e1⟩, fun Dz hDz => ?_⟩
  refine lc_list (K := K) (a := v) (xs := ps.map V.ref) (fun i H5 => Gro H4 H5 Dz ((L.take i).filter (butF ns [(p : Int), (q' : Int), (r : Int)]))) (Gro.nil hDz) (fun i H5 _ G => SqL.of (G.S _ _ e1)) ?_ ?_
  · rintro i yv H5 hy G
    rw [List.getElem?_map] at hy
    cases ea : ps[i]? with
    | none =>
      rw [ea] at hy
      cases hy
    | some a0 =>
      rw [ea] at hy
      obtain rfl : V.ref a0 = yv := Option.some.inj hy
      have li := (List.getElem?_eq_some_iff.mp ea).1
      have el : L[i]? = some L[i] := List.getElem?_eq_getElem (by omega)
      have mt0 := c.cL.sub _ (List.mem_of_getElem? el)
      generalize L[i] = t0 at el mt0
      have ha := G.S _ _ (e3 i a0 t0 ea el)
      obtain ⟨p0, q0, r0, hp0, hq0, hr0, et0⟩ := A3_nat mt0
      have ha' : H5 a0 = some (.tup [.int (p0 : Nat), .int (q0 : Nat), .int (r0 : Nat)]) := by rw [et0] at ha; exact ha
      have tf := take_filter (p := butF ns [(p : Int), (q' : Int), (r : Int)]) el
      have ip0 : InT ns (p0 : Int) := ⟨by omega, by omega⟩
      have iq0 : InT ns (q0 : Int) := ⟨by omega, by omega⟩
      have ir0 : InT ns (r0 : Int) := ⟨by omega, by omega⟩
      have c5 := c4.keep G.S
      refine ⟨rfl, _, rfl, _, rfl, ?_⟩
      refine ⟨_, _, 0, _, rfl, rfl, SqT.of ha', at_of (j := 0) rfl rfl, ?_⟩
      refine ⟨_, rfl, ?_⟩
      refine ⟨_, _, 1, _, rfl, rfl, SqT.of ha', at_of (j := 1) rfl rfl, ?_⟩
      refine ⟨_, rfl, ?_⟩
      refine ⟨_, _, 2, _, rfl, rfl, SqT.of ha', at_of (j := 2) rfl rfl, ?_⟩
      refine ⟨b, ns, p0, q0, r0, rfl, c5.eb, gb, hp0, hq0, hr0, fun H6 z6 S6 nz6 L6 => ?_⟩
      refine ⟨z6, _, rfl, L6, (by show 0 < 6; decide), fun t ht => six_bd gb ip0 iq0 ir0 t ht, fun le0 t' mt' hmin' et' => ?_⟩
      have G6 := G.keep S6
      refine ⟨_, rfl, _, _, .tup (SqT.of et') (dp_ints t'), .tup (SqT.of (G6.S _ _ et4)) (dp_ints t), shaped_ti _, shaped_ti _, _, rfl, ?_⟩
      rw [eqv_ti]
      have me := min_eq gb ip iq ir ip0 iq0 ir0 mt hmin mt' hmin'
      rw [← et0] at me
      have be : (!decide (t' = t)) = butF ns [(p : Int), (q' : Int), (r : Int)] t0 := by
        unfold butF
        congr 1
        rw [Bool.eq_iff_iff, decide_eq_true_iff]
        exact me
      cases cc : butF ns [(p : Int), (q' : Int), (r : Int)] t0 with
      | true =>
        obtain ⟨acc, q1, q2, q3⟩ := G6.app (S6 _ _ ha)
        refine if_tr (be.trans cc) ⟨_, rfl, acc, q1, ?_, ?_⟩
        · have := List.length_filter_le (butF ns [(p : Int), (q' : Int), (r : Int)]) (L.take i)
          rw [List.length_take] at this
          rw [q2]
          exact small1000 (by omega)
        · rw [tf, if_pos cc]
          exact q3
      | false =>
        refine if_fa (be.trans cc) ?_
        rw [tf, if_neg (by rw [cc]; decide), List.append_nil]
        exact G6
  · rintro H5 G
    rw [List.length_map, e2, List.take_length] at G
    exact k _ _ ⟨a, h, q, b, w1, kz, w2, x, y, z, T, le, Dz, ns, L, M, wi, v12, v13, v14, v15, v16, p, q', r, rfl, c4.keep G.S, hp, hq, hrr, G.S _ _ eT4, G.lsts, hand_free c4.hh hDz⟩
end
end J

set_option Elab.async false
set_option linter.all false
set_option maxRecDepth 100000
set_option maxHeartbeats 8000000
namespace J
open PySem PySem.Spec PyProof.Rows L2
theorem paired_snoc {α β : Type} {R : α → β → Prop} {x : α} {y : β} : ∀ {xs : List α} {ys : List β}, Paired R xs ys → R x y → Paired R (xs ++ [x]) (ys ++ [y])
  | _, _, .nil, r => .cons r .nil
  | _, _, .cons a t, r => .cons a (paired_snoc t r)
def M25 (C CB : Addr) (σ : L2.St) (H : Hp) : Prop := ∃ (a h q b w1 kz w2 x y z T le D : Addr) (ns : List Int) (L M : List (List Int)) (wi : Bool) (v12 v13 v14 v15 v16 v19 : Option V), σ = [some (.ref a), some (.ref h), some (.int (ns.length : Nat)), some (.ref w1), some (.ref b), some (.ref kz), some (.ref w2), some (.ref x), some (.ref y), some (.ref z), some (.bl wi), some (.ref T), v12, v13, v14, v15, v16, some (.ref le), some (.ref D), v19, none] ∧ Bks C CB h q b w1 w2 x y z ns L M H
section
variable {P : Program} {w : World} {K : PySem.W.Frag} {mg : Str → Option Value} {base : Heap} {f : Addr} {cdv : Value} {A : Around} {outer : List Env} {s : Shared} {H0 : Hp} {E0' : XK}
theorem seg12 {C CB CT fS fW fL fH : Addr} {fdS fdW fdL fdH : FuncData} (hr : Room 10 (XL P w K mg base f cdv A outer s H0 E0').A) (cb : BoC K CB) (GS : Cal P w K mg base CX0 4 "_law_same_barred" fS fdS ["_law_book_here", "_law_world"] (spLS C CB))
    (GW : Mt P w K mg base (L2.CX P w) 8 CB "with_barred" fW fdW ["self", "three"] (spOne C CB CT addL)) (GL : Cal P w K mg base CX0 2 "_law_let" fL fdL ["_law_backs_here", "_law_classes_here"] spLL) (GH : Cal P w K mg base CX0 3 "_law_shape" fH fdH ["_law_hand_here", "_law_row"] spShape2) :
    SegT (XL P w K mg base f cdv A outer s H0 E0') (cut 23 1) (M23 C CB) (M23 C CB) := by
  intro rest u hu
  refine ⟨_, (pss_cons 
  (ps_if (pt_not (pt_val (pcal GS hr pass0 (pa_cons (pe_meth (pv 7) cb.cl GW.M GW.F (hr.mono (by decide)) GW.b .nil passL (pa_cons (pcal GH hr pass0 (pa_cons (pv 1) (pa_cons (pv 11) pa_nil))) pa_nil)) (pa_cons (pe_tup (pa_cons (pv 4) (pa_cons (pcal GL hr pass0 (pa_cons (pv 4) (pa_cons (pe_op op_cat (pv 18) (pe_lst (pa_cons (pv 11) pa_nil))) pa_nil))) pa_nil))) pa_nil))))) (pss_one 
    (ps_ret pe_bl)) pss_nil) hu), fun D0 σ H m k => ?_⟩
  obtain ⟨a, h, q, b, w1, kz, w2, x, y, z, T, le, D, ns, L, M, wi, v12, v13, v14, v15, v16, p, q', r, rfl, c, hp, hq, hrr, eT, lD, nD⟩ := m
  have gb := c.gb
  have ip : InT ns (p : Int) := ⟨by omega, by omega⟩
  have iq : InT ns (q' : Int) := ⟨by omega, by omega⟩
  have ir : InT ns (r : Int) := ⟨by omega, by omega⟩
  have hc := in_A3 ip iq ir
  obtain ⟨us, eh⟩ := hand_at c.hh
  have nTh : V.ref T ≠ .ref h := fun e => by
    have e := V.ref.inj e
    rw [e, eh] at eT
    cases eT
  have nTh' : T ≠ h := fun e => nTh (by rw [e])
  obtain ⟨dx, t, bb, l, r', ex⟩ := c.X.obj
  refine ⟨_, rfl, x, dx, _, rfl, ex, bf_no _ _ _ _ (by decide +kernel) (by decide +kernel) (by decide +kernel) (by decide +kernel), _, rfl, _, rfl, h, q, .ref T, .tup [.int (p : Nat), .int (q' : Nat), .int (r : Nat)], rfl, c.hh, ⟨T, rfl, eT⟩, rfl, nTh, fun H1 zs s' B1 h1 is its sq nzh _ => ?_⟩
  have c1 := c.but B1 h1
  have eT1 := B1 _ _ nTh' eT
  have lD1 := lD.but eh nD B1
  have its' : items s' = ([(p : Int), (q' : Int), (r : Int)] : List Int).map V.int := its
  refine ⟨x, ns, L, .ref zs, s', rfl, c1.X, gb, c1.cL, is, known_ints its', fun e => ?_, fun p1 q1 r1 ei _ _ _ H2 zb S2 nb Bk => ?_⟩
  · rw [three_yes its' sq ip iq ir] at e
    cases e
  rw [its'] at ei
  cases ei
  have c2 := c1.keep S2
  have eT2 := S2 _ _ eT1
  have lD2 := lD1.keep S2
  refine ⟨_, rfl, _, rfl, _, rfl, _, rfl, (by show 1 ≤ sizeLine; decide), fun l1 n1 => ?_⟩
  have S3 := new_same (o := .lst [.ref T]) n1
  have el : (upd H2 l1 (.lst [.ref T])) l1 = some (.lst [.ref T]) := upd_same
  generalize upd H2 l1 (.lst [.ref T]) = H3 at S3 el
  have lD3 := lD2.keep S3
  obtain ⟨xs, exs, thr⟩ := lsts_thr lD3
  have lL := c.cL.len gb
  have lx : xs.length ≤ 64 := by
    have := thr.len
    have := List.length_filter_le (butF ns [(p : Int), (q' : Int), (r : Int)]) L
    omega
  refine ⟨D, l1, xs, [.ref T], rfl, rfl, exs, el, Nat.le_of_lt (small1000 (by show _ + 1 ≤ _; omega)), fun l2 n2 => ?_⟩
  have S4 := new_same (o := .lst (xs ++ [.ref T])) n2
  have S24 := S3.trans S4
  have c4 := c2.keep S24
  refine ⟨b, l2, ns, xs ++ [.ref T], _, rfl, c4.eb, gb, upd_same, paired_snoc (y := [(p : Int), (q' : Int), (r : Int)]) (thr.keep S4) ⟨.tup [.int (p : Nat), .int (q' : Nat), .int (r : Nat)], ⟨T, rfl, S24 _ _ eT2⟩, rfl, rfl⟩, fun u hu => ?_, fun H5 z5 po ro W5 => ?_⟩
  · rcases List.mem_append.mp hu with g | g
    · exact c.cL.sub u (List.mem_filter.mp g).1
    · rw [List.mem_singleton.mp g]; exact hc
  rw [brd_butc gb c.cL hc] at W5
  refine ⟨(by show 2 ≤ sizeLine; decide), fun wz nwz => ?_⟩
  have S6 := new_same (o := .tup [.ref b, .ref z5]) nwz
  have W6 := W5.keep S6
  have S26 := (S24.trans W5.S).trans S6
  refine ⟨zb, wz, ns, addL ns L [(p : Int), (q' : Int), (r : Int)], rfl, Bk.keep S26, W6.world ((c2.keep S26).eb) upd_same, gb, (cl_filter gb (add_cl gb c.cL hc)).o, fun H7 S7 => ⟨_, rfl, iteF ?_⟩⟩
  have S27 := S26.trans S7
  exact k _ _ ⟨a, h, q, b, w1, kz, w2, x, y, z, T, le, D, ns, L, M, wi, v12, v13, v14, v15, v16, p, q', r, rfl, c2.keep S27, hp, hq, hrr, S27 _ _ eT2, lD2.keep S27, nD⟩
theorem seg13 {C CB CT fS fW fL fH : Addr} {fdS fdW fdL fdH : FuncData} (hr : Room 10 (XL P w K mg base f cdv A outer s H0 E0').A) (cb : BoC K CB) (GS : Cal P w K mg base CX0 4 "_law_same_barred" fS fdS ["_law_book_here", "_law_world"] (spLS C CB))
    (GW : Mt P w K mg base (L2.CX P w) 8 CB "without_barred" fW fdW ["self", "three"] (spOne C CB CT butL)) (GL : Cal P w K mg base CX0 2 "_law_let" fL fdL ["_law_backs_here", "_law_classes_here"] spLL) (GH : Cal P w K mg base CX0 3 "_law_shape" fH fdH ["_law_hand_here", "_law_row"] spShape2) :
    SegT (XL P w K mg base f cdv A outer s H0 E0') (cut 24 1) (M23 C CB) (M25 C CB) := by
  intro rest u hu
  refine ⟨_, (pss_cons 
  (ps_if (pt_not (pt_val (pcal GS hr pass0 (pa_cons (pe_meth (pv 7) cb.cl GW.M GW.F (hr.mono (by decide)) GW.b .nil passL (pa_cons (pcal GH hr pass0 (pa_cons (pv 1) (pa_cons (pv 11) pa_nil))) pa_nil)) (pa_cons (pe_tup (pa_cons (pv 4) (pa_cons (pcal GL hr pass0 (pa_cons (pv 4) (pa_cons (pv 18) pa_nil))) pa_nil))) pa_nil))))) (pss_one 
    (ps_ret pe_bl)) pss_nil) hu), fun D0 σ H m k => ?_⟩
  obtain ⟨a, h, q, b, w1, kz, w2, x, y, z, T, le, D, ns, L, M, wi, v12, v13, v14, v15, v16, p, q', r, rfl, c, hp, hq, hrr, eT, lD, nD⟩ := m
  have gb := c.gb
  have ip : InT ns (p : Int) := ⟨by omega, by omega⟩
  have iq : InT ns (q' : Int) := ⟨by omega, by omega⟩
  have ir : InT ns (r : Int) := ⟨by omega, by omega⟩
  have hc := in_A3 ip iq ir
  obtain ⟨us, eh⟩ := hand_at c.hh
  have nTh : V.ref T ≠ .ref h := fun e => by
    have e := V.ref.inj e
    rw [e, eh] at eT
    cases eT
  obtain ⟨dx, t, bb, l, r', ex⟩ := c.X.obj
  refine ⟨_, rfl, x, dx, _, rfl, ex, bf_no _ _ _ _ (by decide +kernel) (by decide +kernel) (by decide +kernel) (by decide +kernel), _, rfl, _, rfl, h, q, .ref T, .tup [.int (p : Nat), .int (q' : Nat), .int (r : Nat)], rfl, c.hh, ⟨T, rfl, eT⟩, rfl, nTh, fun H1 zs s' B1 h1 is its sq nzh _ => ?_⟩
  have c1 := c.but B1 h1
  have lD1 := lD.but eh nD B1
  have its' : items s' = ([(p : Int), (q' : Int), (r : Int)] : List Int).map V.int := its
  refine ⟨x, ns, L, .ref zs, s', rfl, c1.X, gb, c1.cL, is, known_ints its', fun e => ?_, fun p1 q1 r1 ei _ _ _ H2 zb S2 nb Bk => ?_⟩
  · rw [three_yes its' sq ip iq ir] at e
    cases e
  rw [its'] at ei
  cases ei
  have c2 := c1.keep S2
  have lD2 := lD1.keep S2
  obtain ⟨xs, exs, thr⟩ := lsts_thr lD2
  refine ⟨_, rfl, _, rfl, _, rfl, b, D, ns, xs, _, rfl, c2.eb, gb, exs, thr, fun u hu => c.cL.sub u (List.mem_filter.mp hu).1, fun H5 z5 po ro W5 => ?_⟩
  rw [brd_but gb c.cL hc] at W5
  refine ⟨(by show 2 ≤ sizeLine; decide), fun wz nwz => ?_⟩
  have S6 := new_same (o := .tup [.ref b, .ref z5]) nwz
  have W6 := W5.keep S6
  have S26 := W5.S.trans S6
  refine ⟨zb, wz, ns, butL ns L [(p : Int), (q' : Int), (r : Int)], rfl, Bk.keep S26, W6.world ((c2.keep S26).eb) upd_same, gb, (cl_filter gb (but_cl gb c.cL hc)).o, fun H7 S7 => ⟨_, rfl, iteF ?_⟩⟩
  exact k _ _ ⟨a, h, q, b, w1, kz, w2, x, y, z, T, le, D, ns, L, M, wi, v12, v13, v14, v15, v16, none, rfl, c2.keep (S26.trans S7)⟩
theorem seg14 {C CB fP fN : Addr} {fdP fdN : FuncData} (hr : Room 10 (XL P w K mg base f cdv A outer s H0 E0').A) (nr : mg "range" = none) (GP : Cal P w K mg base CX0 3 "_law_pick" fP fdP ["_law_hand_here", "_law_things"] spPick)
    (GN : Cal P w K mg base CX0 9 "_law_no_three" fN fdN ["_law_book_here", "_law_thing", "_law_way"] (spNoTh K C CB)) :
    SegT (XL P w K mg base f cdv A outer s H0 E0') (cut 25 1) (M25 C CB) (M25 C CB) := by
  intro rest u hu
  refine ⟨_, (pss_cons 
  (ps_for PassesOwn.never rfl (pi_range1 (by rfl) nr (pa_cons pe_int pa_nil)) (pg_name (i := 16) sc_law.nd rfl (Or.inl rfl)) (pss_cons 
    (ps_set (i := 19) sc_law.nd rfl (Or.inl rfl) (pcal GP hr pass0 (pa_cons (pv 1) (pa_cons (pe_lst (pa_cons (pe_tup (pa_cons pe_int (pa_cons pe_int pa_nil))) (pa_cons (pe_lst (pa_cons pe_int (pa_cons pe_int (pa_cons (pv 2) pa_nil)))) (pa_cons (pe_tup (pa_cons pe_int (pa_cons pe_bl (pa_cons pe_int pa_nil)))) (pa_cons pe_non (pa_cons (pe_lst (pa_cons pe_int (pa_cons pe_int (pa_cons (pe_un un_neg pe_int) pa_nil)))) (pa_cons pe_str pa_nil))))))) pa_nil)))) (pss_one 
    (ps_if (pt_not (pt_val (pcal GN hr pass0 (pa_cons (pv 7) (pa_cons (pv 19) (pa_cons (pv 16) pa_nil)))))) (pss_one 
      (ps_ret pe_bl)) pss_nil)))) hu), fun D0 σ H m k => ?_⟩
  obtain ⟨a, h, q, b, w1, kz, w2, x, y, z, T, le, D, ns, L, M, wi, v12, v13, v14, v15, v16, v19, rfl, c⟩ := m
  refine ⟨2, rfl, by decide, by decide, for_range (lo := 0) (n := 2) (fun i σ H' => ∃ v16 v19 : Option V, σ = [some (.ref a), some (.ref h), some (.int (ns.length : Nat)), some (.ref w1), some (.ref b), some (.ref kz), some (.ref w2), some (.ref x), some (.ref y), some (.ref z), some (.bl wi), some (.ref T), v12, v13, v14, v15, v16, some (.ref le), some (.ref D), v19, none] ∧ Bks C CB h q b w1 w2 x y z ns L M H')
    ⟨_, _, rfl, c⟩ ?_ ?_⟩
  · rintro i σ H1 hi ⟨v16, v19, rfl, c1⟩
    refine ⟨_, rfl, (by show 2 ≤ sizeLine; decide), fun l1 n1 => ⟨_, rfl, (by show 3 ≤ sizeLine; decide), fun l2 n2 => ⟨(by show 3 ≤ sizeLine; decide), fun l3 n3 => ?_⟩⟩⟩
    have S1 := new_same (o := .tup [.int 0, .int 0]) n1
    have e1 : (upd H1 l1 (.tup [.int 0, .int 0])) l1 = some (.tup [.int 0, .int 0]) := upd_same
    generalize upd H1 l1 (.tup [.int 0, .int 0]) = A1 at n2 n3 S1 e1 ⊢
    have S2 := new_same (o := .lst [.int 0, .int 0, .int (ns.length : Nat)]) n2
    have e2 : (upd A1 l2 (.lst [.int 0, .int 0, .int (ns.length : Nat)])) l2 = some (.lst [.int 0, .int 0, .int (ns.length : Nat)]) := upd_same
    generalize upd A1 l2 (.lst [.int 0, .int 0, .int (ns.length : Nat)]) = A2 at n3 S2 e2 ⊢
    have S3 := new_same (o := .tup [.int 0, .bl true, .int 1]) n3
    have e3 : (upd A2 l3 (.tup [.int 0, .bl true, .int 1])) l3 = some (.tup [.int 0, .bl true, .int 1]) := upd_same
    generalize upd A2 l3 (.tup [.int 0, .bl true, .int 1]) = A3' at S3 e3 ⊢
    refine ⟨_, rfl, (by show 3 ≤ sizeLine; decide), fun l4 n4 => ?_⟩
    have S4 := new_same (o := .lst [.int 0, .int 1, .int (-1)]) n4
    have e4 : (upd A3' l4 (.lst [.int 0, .int 1, .int (-1)])) l4 = some (.lst [.int 0, .int 1, .int (-1)]) := upd_same
    refine ⟨(by show 6 ≤ sizeLine; decide), fun l5 n5 => ?_⟩
    have c2 := c1.keep S1
    have c3 := c2.keep S2
    have c4 := c3.keep S3
    have c5 := c4.keep S4
    have m1 := hand_free c1.hh n1
    have m2 := hand_free c2.hh n2
    have m3 := hand_free c3.hh n3
    have m4 := hand_free c4.hh n4
    have m5 := hand_free c5.hh n5
    have S5 := new_same (o := .lst [.ref l1, .ref l2, .ref l3, .non, .ref l4, .str (Str.ofString "000")]) n5
    have c6 := c5.keep S5
    have f1 := S5 _ _ (S4 _ _ (S3 _ _ (S2 _ _ e1)))
    have f2 := S5 _ _ (S4 _ _ (S3 _ _ e2))
    have f3 := S5 _ _ (S4 _ _ e3)
    have f4 := S5 _ _ e4
    refine ⟨h, q, l5, _, rfl, c6.hh, m5, upd_same, (by show 0 < 6; decide), (by show 6 ≤ 1000; decide), fun H2 y' my B2 h2 => ?_⟩
    have c7 := c6.but B2 h2
    have g1 := B2 _ _ m1 f1
    have g2 := B2 _ _ m2 f2
    have g3 := B2 _ _ m3 f3
    have g4 := B2 _ _ m4 f4
    obtain ⟨sy, bad⟩ : ∃ sy, BadT K ns.length H2 y' sy := by
      simp only [List.mem_cons, List.not_mem_nil, or_false] at my
      rcases my with rfl | rfl | rfl | rfl | rfl | rfl
      · exact ⟨_, badT_tup g1 (fun y hy => by
          simp only [List.mem_cons, List.not_mem_nil, or_false] at hy
          rcases hy with rfl | rfl <;> exact itm_int _) fun ns' _ => rfl⟩
      · exact ⟨_, badT_lst g2 (fun y hy => by
          simp only [List.mem_cons, List.not_mem_nil, or_false] at hy
          rcases hy with rfl | rfl | rfl <;> exact itm_int _) fun ns' e => all3 (.inr (.inr (odd_int (.inr (Int.le_refl _)) ns' e)))⟩
      · exact ⟨_, badT_tup g3 (fun y hy => by
          simp only [List.mem_cons, List.not_mem_nil, or_false] at hy
          rcases hy with rfl | rfl | rfl
          · exact itm_int _
          · exact itm_bl _
          · exact itm_int _) fun ns' e => all3 (.inr (.inl (odd_sc (m := ns.length) (fun n z => by cases z) ns' e)))⟩
      · exact ⟨_, badT_sc (d := .none) rfl (by simp [PyData.canLay0]) (by simp [PyData.depth]) (by simp [PyData.eqv]) fun _ => .non⟩
      · exact ⟨_, badT_lst g4 (fun y hy => by
          simp only [List.mem_cons, List.not_mem_nil, or_false] at hy
          rcases hy with rfl | rfl | rfl <;> exact itm_int _) fun ns' e => all3 (.inr (.inr (odd_int (.inl (by decide)) ns' e)))⟩
      · exact ⟨_, badT_sc (d := .str (Str.ofString "000")) rfl (by decide +kernel) (by simp [PyData.depth]) (by simp [PyData.eqv]) fun _ => .str _⟩
    refine ⟨_, rfl, _, rfl, _, rfl, x, ns, L, y', sy, _, rfl, c7.X, c7.gb, c7.cL, bad, fun H3 S3' => ⟨_, rfl, iteF ?_⟩⟩
    exact ⟨_, _, rfl, c7.keep S3'⟩
  · rintro σ H1 ⟨v16, v19, rfl, c1⟩
    exact k _ _ ⟨a, h, q, b, w1, kz, w2, x, y, z, T, le, D, ns, L, M, wi, v12, v13, v14, v15, v16, v19, rfl, c1⟩
theorem seg15 {C CB fS : Addr} {fdS : FuncData} (hr : Room 10 (XL P w K mg base f cdv A outer s H0 E0').A) (GS : Cal P w K mg base CX0 4 "_law_same_barred" fS fdS ["_law_book_here", "_law_world"] (spLS C CB)) :
    EndT (XL P w K mg base f cdv A outer s H0 E0') (cut 26 1) (M25 C CB) := by
  refine ⟨_, (pss_one 
  (ps_ret (pe_and (pcal GS hr pass0 (pa_cons (pv 7) (pa_cons (pv 3) pa_nil))) (pe_one (pcal GS hr pass0 (pa_cons (pv 8) (pa_cons (pv 6) pa_nil))))))), fun D0 σ H m k => ?_⟩
  obtain ⟨a, h, q, b, w1, kz, w2, x, y, z, T, le, D, ns, L, M, wi, v12, v13, v14, v15, v16, v19, rfl, c⟩ := m
  refine ⟨_, rfl, _, rfl, x, w1, ns, L, rfl, c.X, c.W, c.gb, c.cL.o, fun H1 S1 => ⟨_, rfl, iteT ?_⟩⟩
  have c1 := c.keep S1
  exact ⟨_, rfl, _, rfl, y, w2, ns, M, rfl, c1.Y, c1.W2, c.gb, c.cM.o, fun H2 S2 => k _⟩
end
end J

set_option Elab.async false
set_option linter.all false
set_option maxRecDepth 100000
set_option maxHeartbeats 8000000
namespace J
open PySem PySem.Spec PyProof.Rows L2
section
variable {P : Program} {w : World} {K : PySem.W.Frag} {mg : Str → Option Value} {base : Heap}
theorem ok_law {f C CC CB CO CE CF CT fH fP fA fD fC fL fBo fBk fO fA2 fSB fBa fW fPl fTG fE fDT fCo fLa fLt fFi fOB fJ fI fOT fRd fWB fWo fSh fNT dv : Addr} {fd fdH fdP fdA fdD fdC fdL fdBo fdBk fdO fdA2 fdSB fdBa fdW fdPl fdTG fdE fdDT fdCo fdLa fdLt fdFi fdOB fdJ fdI fdOT fdRd fdWB fdWo fdSh fdNT : FuncData}
    (F : Fun K "law" "law" s_law f fd) (nl : mg "len" = none) (nr : mg "range" = none) (nt : mg "tuple" = none) (nm : mg "min" = none) (cb : BoC K CB)
    (GH : Cal P w K mg base CX0 1 "_law_hand" fH fdH ["_law_script"] (spHand K)) (GP : Cal P w K mg base CX0 3 "_law_pick" fP fdP ["_law_hand_here", "_law_things"] spPick) (GA : Cal P w K mg base CX0 4 "_law_any_world" fA fdA ["_law_hand_here", "_law_many"] spAW)
    (GD : Cal P w K mg base CX0 2 "_law_draw" fD fdD ["_law_hand_here", "_law_many"] spDraw) (GC : Cal P w K mg base CX0 2 "_law_classes" fC fdC ["_law_backs_here"] spLC) (GL : Cal P w K mg base CX0 2 "_law_let" fL fdL ["_law_backs_here", "_law_classes_here"] spLL)
    (GBo : Cal P w K mg base CX0 3 "_law_both" fBo fdBo ["_law_one", "_law_other", "_law_way"] spBoth) (GBk : Cal P w K mg base CX0 8 "_law_book" fBk fdBk ["_law_hand_here", "_law_world"] (spLBook C CB))
    (FO : FnOk P w K mg base (L2.CX P w) 8 fO fdO ["self", "other"] (spTwo C CB CO orL)) (sO : PySem.W.findIn K (.ref CB) "__or__" = some (some (.ref fO))) (iO : PySem.W.isFn K (.ref fO) = true) (bO : Binds K fdO ["self", "other"] [])
    (FA : FnOk P w K mg base (L2.CX P w) 8 fA2 fdA2 ["self", "other"] (spTwo C CB CO andL)) (sA : PySem.W.findIn K (.ref CB) "__and__" = some (some (.ref fA2))) (iA : PySem.W.isFn K (.ref fA2) = true) (bA : Binds K fdA2 ["self", "other"] []) (sf : PySem.W.selfFirst K CB = true)
    (GSB : Cal P w K mg base CX0 4 "_law_same_barred" fSB fdSB ["_law_book_here", "_law_world"] (spLS C CB)) (GBa : Cal P w K mg base CX0 1 "_law_barred" fBa fdBa ["_law_world"] spLB)
    (GW : Cal P w K mg base (L2.CX P w) 2 "is_within" fW fdW ["one", "other"] (spWithin C CB CO)) (GPl : Cal P w K mg base CX0 1 "_law_plain" fPl fdPl ["_law_answer", "_law_due"] spP0) (GTG : Cal P w K mg base CX0 8 "_law_threes_of_guests" fTG fdTG ["_law_one", "_law_other", "_law_either", "_law_worlds", "_law_within"] (spTG C CB))
    (FE : FnOk P w K mg base CX0 2 fE fdE ["self", "other"] (spBEq C CB)) (aE : PySem.W.findIn K (.ref CB) "__eq__" = some (some (.ref fE))) (iE : PySem.W.isFn K (.ref fE) = true) (bE : Binds K fdE ["self", "other"] []) (nfT : PySem.W.notFirst K CB (.type "tuple") = true)
    (GDT : Cal P w K mg base CX0 3 "_law_drawn_table" fDT fdDT ["_law_hand_here", "_law_backs_here", "_law_size"] spDT) (GCo : Cal P w K mg base CX0 7 "_law_company" fCo fdCo ["_law_backs_here", "_law_labels_here", "_law_table"] (spLComp C CC)) (GLa : Cal P w K mg base CX0 3 "_law_labels" fLa fdLa ["_law_hand_here", "_law_many"] spLabels)
    (GLt : Mt P w K mg base (L2.CX P w) 3 CB "lets" fLt fdLt ["self", "company"] (spLets C CC CB CO)) (GFi : Cal P w K mg base CX0 1 "_law_fits" fFi fdFi ["_law_world", "_law_table"] spFits) (GOB : Cal P w K mg base CX0 4 "_law_other_backs" fOB fdOB ["_law_hand_here", "_law_backs_here"] spOB)
    (mT : mg "Ties" = some (.ref C)) (MJ : Mk K C fJ) (FJ : FnOk P w K mg base (L2.CX P w) 4 fJ fdJ ["self", "backs"] (spTies C CF)) (bJ : Binds K fdJ ["self", "backs"] [])
    (mB : mg "Book" = some (.ref CB)) (MI : Mk K CB fI) (FI : FnOk P w K mg base (L2.CX P w) 6 fI fdI ["self", "ties", "barred"] (spBI K C CB CE)) (bI0 : Binds K fdI ["self", "ties", "barred"] [.ref dv]) (kt : KT K dv)
    (GOT : Cal P w K mg base CX0 9 "_law_other_ties" fOT fdOT ["_law_one", "_law_strange", "_law_way"] (spOT C CB)) (GRd : Cal P w K mg base CX0 1 "_law_readings" fRd fdRd ["_law_backs_here", "_law_p", "_law_q", "_law_r"] spLR)
    (GWB : Mt P w K mg base (L2.CX P w) 8 CB "with_barred" fWB fdWB ["self", "three"] (spOne C CB CT addL)) (GWo : Mt P w K mg base (L2.CX P w) 8 CB "without_barred" fWo fdWo ["self", "three"] (spOne C CB CT butL)) (GSh : Cal P w K mg base CX0 3 "_law_shape" fSh fdSh ["_law_hand_here", "_law_row"] spShape2)
    (GNT : Cal P w K mg base CX0 9 "_law_no_three" fNT fdNT ["_law_book_here", "_law_thing", "_law_way"] (spNoTh K C CB)) : FnOk P w K mg base CX0 11 f fd ["_law_script"] (spLaw K) := by
  refine F.ok sc_law (fun vs H Q E h => ?_) (fun cdv A outer s H vs Q E hr h => ?_)
  · obtain ⟨a, ns, rfl, _⟩ := h
    rfl
  · obtain ⟨a, ns, rfl, hS, hn, k⟩ := h
    have hr : Room 10 (XL P w K mg base f cdv A outer s H E).A := hr
    have e15 := seg15 (C := C) (CB := CB) hr GSB
    have e14 := (seg14 (C := C) (CB := CB) hr nr GP GNT).end e15
    have e13 := (seg13 hr cb GSB GWo GL GSh).end e14
    have e12 := (seg12 hr cb GSB GWB GL GSh).end e13
    have e11 := (seg11 (C := C) (CB := CB) hr nr nt nm GD GRd GBa).end e12
    have e10 := (seg10 hr nr GOB mT MJ FJ bJ mB MI FI bI0 kt GOT).end e11
    have e9 := (seg9 hr nl nr cb GP GDT GCo GLa GLt GFi GPl).end e10
    have e8 := (seg8 hr GW FA sA iA bA sf FE aE iE bE nfT).end e9
    have e7 := (seg7 hr GW GPl GTG).end e8
    have e6 := (seg6 (C := C) (CB := CB) hr GBa).end e7
    have e5 := (seg5 hr GSB GBo FA sA iA bA sf).end e6
    have e4 := (seg4 hr GBk FO sO iO bO sf).end e5
    have e3 := (seg3 hr GD GBo).end e4
    have e2 := (seg2 hr GD GC GL).end e3
    have e1 := (seg1 hr GH GP GA).end e2
    obtain ⟨t, pt, ht⟩ := e1
    exact ⟨t, pt, ht _ _ _ ⟨a, ns, rfl, hS, hn⟩ fun H' => k H'⟩
end
end J

set_option Elab.async false
set_option linter.all false
set_option maxRecDepth 100000
set_option maxHeartbeats 8000000
namespace J
open PySem L2
theorem kit_me {K : PySem.W.Frag} {S : Addr} : PySem.W.kitOne K (.ref S) (.ref S) = some true := by
  unfold PySem.W.kitOne
  rw [if_pos (by simp)]
theorem kit_no {K : PySem.W.Frag} {S : Addr} {T : String} (h2 : PySem.W.isClsIn K S = true) (h3 : PySem.W.typeIn K (.ref S) = some (.type "type")) (h4 : PySem.W.subIn K (.type T) (.ref S) = some false) : PySem.W.kitOne K (.type T) (.ref S) = some false := by
  have e2 : ((PySem.W.clsIn K S).isSome && PySem.W.typeIn K (.ref S) == some (.type "type")) = true := by
    have q : (PySem.W.clsIn K S).isSome = true := h2
    rw [q, h3]
    rfl
  unfold PySem.W.kitOne
  rw [if_neg (by simp)]
  show (if ((PySem.W.clsIn K S).isSome && PySem.W.typeIn K (.ref S) == some (.type "type")) = true then PySem.W.subIn K (.type T) (.ref S) else none) = some false
  rw [if_pos e2]
  exact h4
theorem kit_yes {K : PySem.W.Frag} {A S : Addr} (h2 : PySem.W.isClsIn K S = true) (h3 : PySem.W.typeIn K (.ref S) = some (.type "type")) (h4 : PySem.W.subIn K (.ref A) (.ref S) = some true) : PySem.W.kitOne K (.ref A) (.ref S) = some true := by
  have e2 : ((PySem.W.clsIn K S).isSome && PySem.W.typeIn K (.ref S) == some (.type "type")) = true := by
    have q : (PySem.W.clsIn K S).isSome = true := h2
    rw [q, h3]
    rfl
  unfold PySem.W.kitOne
  split
  · rfl
  · show (if ((PySem.W.clsIn K S).isSome && PySem.W.typeIn K (.ref S) == some (.type "type")) = true then PySem.W.subIn K (.ref A) (.ref S) else none) = some true
    rw [if_pos e2]
    exact h4
theorem fund_mk1 {K : PySem.W.Frag} {x qual : Str} {st : Stmt} {f Td e1 : Addr} {oc kV doc pm cd ct cT : Value} {od an dT : Option Addr} {sl slT : Array (Option Value)} {nT : Nat} (l : K.lookup f = some ⟨oc, od, .func (PySem.W.fnOf x qual (defArgs st) (defBody st) (defScope st) (.ref Td) kV doc pm an cd ct), sl⟩)
    (lT : K.lookup Td = some ⟨cT, dT, .seq #[.ref e1] nT, slT⟩) (c : PySem.W.codeIn K cd qual = true) (k : PySem.W.keepIn K (.ref f) = true) : FunD K x qual (defArgs st) (defBody st) (defScope st) [V.ref e1] [] f (PySem.W.fnOf x qual (defArgs st) (defBody st) (defScope st) (.ref Td) kV doc pm an cd ct) :=
  ⟨⟨oc, od, .ref Td, kV, doc, pm, an, cd, ct, sl, rfl, l, c, .inr ⟨by simp, Td, _, [.ref e1], nT, rfl, lT, rfl, .cons rfl .nil⟩, .inl rfl⟩, k⟩
theorem fund_full1 {K : PySem.W.Frag} {x qual : Str} {params : Arguments} {body : List Stmt} {scope : Scope} {a : V} {f : Addr} {fd : FuncData} {ps : List Str} (F : FunD K x qual params body scope [a] [] f fd)
    (h : ∀ (T : Addr) (kV doc pm : Value) (an : Option Addr) (cdv ct : Value) (us its : List Value), us.length = ps.length → its.length = 1 →
      ∃ k, bindArgs (PySem.W.fnOf x qual params body scope (.ref T) kV doc pm an cdv ct) ⟨us, []⟩ = seqItems? (.ref T) >>= k ∧ k (some its.toArray) = pure (ps.zip (us ++ its.drop 1))) : Binds K fd ps [] := by
  obtain ⟨ds, v, bd⟩ := F.binds1 ps.length 1 (by simp) (by simp) h
  have v' : Vals [] ds := v
  cases v'
  exact bd
theorem fund_dfl1 {K : PySem.W.Frag} {x qual : Str} {params : Arguments} {body : List Stmt} {scope : Scope} {a : Addr} {f : Addr} {fd : FuncData} {ps : List Str} {n : Nat} (F : FunD K x qual params body scope [V.ref a] [] f fd) (hn : n + 1 = ps.length)
    (h : ∀ (T : Addr) (kV doc pm : Value) (an : Option Addr) (cdv ct : Value) (us its : List Value), us.length = n → its.length = 1 →
      ∃ k, bindArgs (PySem.W.fnOf x qual params body scope (.ref T) kV doc pm an cdv ct) ⟨us, []⟩ = seqItems? (.ref T) >>= k ∧ k (some its.toArray) = pure (ps.zip (us ++ its.drop 0))) : Binds K fd ps [.ref a] := by
  obtain ⟨ds, v, bd⟩ := F.binds1 n 0 (by simp) hn h
  have v' : Vals [V.ref a] ds := v
  cases v' with
  | cons r t =>
    cases t
    cases r
    exact bd
theorem fund_mk {K : PySem.W.Frag} {x qual : Str} {st : Stmt} {f Td e1 e2 : Addr} {oc kV doc pm cd ct cT : Value} {od an dT : Option Addr} {sl slT : Array (Option Value)} {nT : Nat} (l : K.lookup f = some ⟨oc, od, .func (PySem.W.fnOf x qual (defArgs st) (defBody st) (defScope st) (.ref Td) kV doc pm an cd ct), sl⟩)
    (lT : K.lookup Td = some ⟨cT, dT, .seq #[.ref e1, .ref e2] nT, slT⟩) (c : PySem.W.codeIn K cd qual = true) (k : PySem.W.keepIn K (.ref f) = true) : FunD K x qual (defArgs st) (defBody st) (defScope st) [V.ref e1, V.ref e2] [] f (PySem.W.fnOf x qual (defArgs st) (defBody st) (defScope st) (.ref Td) kV doc pm an cd ct) :=
  ⟨⟨oc, od, .ref Td, kV, doc, pm, an, cd, ct, sl, rfl, l, c, .inr ⟨by simp, Td, _, [.ref e1, .ref e2], nT, rfl, lT, rfl, .cons rfl (.cons rfl .nil)⟩, .inl rfl⟩, k⟩
theorem fund_binds {K : PySem.W.Frag} {x qual : Str} {params : Arguments} {body : List Stmt} {scope : Scope} {a b : V} {f : Addr} {fd : FuncData} {ps : List Str} (F : FunD K x qual params body scope [a, b] [] f fd)
    (h : ∀ (T : Addr) (kV doc pm : Value) (an : Option Addr) (cdv ct : Value) (us its : List Value), us.length = ps.length → its.length = 2 →
      ∃ k, bindArgs (PySem.W.fnOf x qual params body scope (.ref T) kV doc pm an cdv ct) ⟨us, []⟩ = seqItems? (.ref T) >>= k ∧ k (some its.toArray) = pure (ps.zip (us ++ its.drop 2))) : Binds K fd ps [] := by
  obtain ⟨ds, v, bd⟩ := F.binds1 ps.length 2 (by simp) (by simp) h
  have v' : Vals [] ds := v
  cases v'
  exact bd
/-- an error of the class at S is what its own name catches -/
theorem exm_own {K : PySem.W.Frag} {S : Addr} (h1 : PySem.W.subIn K (.ref S) (.type "BaseException") = some true) (h2 : PySem.W.isClsIn K S = true) (h3 : PySem.W.typeIn K (.ref S) = some (.type "type")) (h4 : PySem.W.subIn K (.ref S) (.ref S) = some true) :
    PySem.W.exmOne K (.ref S) (.ref S) = some true := by
  have e1 : (PySem.W.subIn K (.ref S) (.type "BaseException") == some true) = true := by rw [h1]; rfl
  have e2 : ((PySem.W.clsIn K S).isSome && PySem.W.typeIn K (.ref S) == some (.type "type")) = true := by
    have q : (PySem.W.clsIn K S).isSome = true := h2
    rw [q, h3]
    rfl
  unfold PySem.W.exmOne
  rw [if_pos e1]
  show (if ((PySem.W.clsIn K S).isSome && PySem.W.typeIn K (.ref S) == some (.type "type")) = true then PySem.W.subIn K (.ref S) (.ref S) else none) = some true
  rw [if_pos e2]
  exact h4
/-- an error of the class at A, asked whether the name of the class at S catches it -/
theorem exm_of {K : PySem.W.Frag} {A S : Addr} {b : Bool} (h1 : PySem.W.subIn K (.ref S) (.type "BaseException") = some true) (h2 : PySem.W.isClsIn K S = true) (h3 : PySem.W.typeIn K (.ref S) = some (.type "type")) (h4 : PySem.W.subIn K (.ref A) (.ref S) = some b) :
    PySem.W.exmOne K (.ref A) (.ref S) = some b := by
  have e1 : (PySem.W.subIn K (.ref S) (.type "BaseException") == some true) = true := by rw [h1]; rfl
  have e2 : ((PySem.W.clsIn K S).isSome && PySem.W.typeIn K (.ref S) == some (.type "type")) = true := by
    have q : (PySem.W.clsIn K S).isSome = true := h2
    rw [q, h3]
    rfl
  unfold PySem.W.exmOne
  rw [if_pos e1]
  show (if ((PySem.W.clsIn K S).isSome && PySem.W.typeIn K (.ref S) == some (.type "type")) = true then PySem.W.subIn K (.ref A) (.ref S) else none) = some b
  rw [if_pos e2]
  exact h4
theorem all_mk {l : PySem.W.OpenLaw} {w : World} {K : PySem.W.Frag} {h : Heap} {mg : Str → Option Value} {fa : Addr} (X : K.In h) (G : h.Ns mainGlobals mg) (hfa : mg "law" = some (.ref fa))
    {GE CB f_xCB CI f_xCI C3 f_xC3 CE f_xCE CM f_xCM CT CC CK CO f_W f_LB f_Q f_KB f_TF f_tI f_tE f_tH f_tB f_CR f_CC2 f_TO f_cI TdcI e1cI e2cI f_I3 f_RO f_LR f_CH f_WR f_BU f_BT f_bI TdbI e1bI f_bE f_bo f_ba f_FB f_bc f_bl f_bw f_bu f_IW f_X f_H f_D f_P f_K f_N f_RD f_LC f_LE f_BA f_AW f_BH f_B f_FI f_LW f_LO f_LK f_S f_FL f_DT f_SB f_OB f_BO f_OT f_NT f_TG f_V : Addr} {oc_xCB kv_xCB dc_xCB pm_xCB cd_xCB ct_xCB oc_xCI kv_xCI dc_xCI pm_xCI cd_xCI ct_xCI oc_xC3 kv_xC3 dc_xC3 pm_xC3 cd_xC3 ct_xC3 oc_xCE kv_xCE dc_xCE pm_xCE cd_xCE ct_xCE oc_xCM kv_xCM dc_xCM pm_xCM cd_xCM ct_xCM oc_W kv_W dc_W pm_W cd_W ct_W oc_LB kv_LB dc_LB pm_LB cd_LB ct_LB oc_Q kv_Q dc_Q pm_Q cd_Q ct_Q oc_KB kv_KB dc_KB pm_KB cd_KB ct_KB oc_TF kv_TF dc_TF pm_TF cd_TF ct_TF oc_tI kv_tI dc_tI pm_tI cd_tI ct_tI oc_tE kv_tE dc_tE pm_tE cd_tE ct_tE oc_tH kv_tH dc_tH pm_tH cd_tH ct_tH oc_tB kv_tB dc_tB pm_tB cd_tB ct_tB oc_CR kv_CR dc_CR pm_CR cd_CR ct_CR oc_CC2 kv_CC2 dc_CC2 pm_CC2 cd_CC2 ct_CC2 oc_TO kv_TO dc_TO pm_TO cd_TO ct_TO oc_cI kv_cI dc_cI pm_cI cd_cI ct_cI cTcI oc_I3 kv_I3 dc_I3 pm_I3 cd_I3 ct_I3 oc_RO kv_RO dc_RO pm_RO cd_RO ct_RO oc_LR kv_LR dc_LR pm_LR cd_LR ct_LR oc_CH kv_CH dc_CH pm_CH cd_CH ct_CH oc_WR kv_WR dc_WR pm_WR cd_WR ct_WR oc_BU kv_BU dc_BU pm_BU cd_BU ct_BU oc_BT kv_BT dc_BT pm_BT cd_BT ct_BT oc_bI kv_bI dc_bI pm_bI cd_bI ct_bI cTbI oc_bE kv_bE dc_bE pm_bE cd_bE ct_bE oc_bo kv_bo dc_bo pm_bo cd_bo ct_bo oc_ba kv_ba dc_ba pm_ba cd_ba ct_ba oc_FB kv_FB dc_FB pm_FB cd_FB ct_FB oc_bc kv_bc dc_bc pm_bc cd_bc ct_bc oc_bl kv_bl dc_bl pm_bl cd_bl ct_bl oc_bw kv_bw dc_bw pm_bw cd_bw ct_bw oc_bu kv_bu dc_bu pm_bu cd_bu ct_bu oc_IW kv_IW dc_IW pm_IW cd_IW ct_IW oc_X kv_X dc_X pm_X cd_X ct_X oc_H kv_H dc_H pm_H cd_H ct_H oc_D kv_D dc_D pm_D cd_D ct_D oc_P kv_P dc_P pm_P cd_P ct_P oc_K kv_K dc_K pm_K cd_K ct_K oc_N kv_N dc_N pm_N cd_N ct_N oc_RD kv_RD dc_RD pm_RD cd_RD ct_RD oc_LC kv_LC dc_LC pm_LC cd_LC ct_LC oc_LE kv_LE dc_LE pm_LE cd_LE ct_LE oc_BA kv_BA dc_BA pm_BA cd_BA ct_BA oc_AW kv_AW dc_AW pm_AW cd_AW ct_AW oc_BH kv_BH dc_BH pm_BH cd_BH ct_BH oc_B kv_B dc_B pm_B cd_B ct_B oc_FI kv_FI dc_FI pm_FI cd_FI ct_FI oc_LW kv_LW dc_LW pm_LW cd_LW ct_LW oc_LO kv_LO dc_LO pm_LO cd_LO ct_LO oc_LK kv_LK dc_LK pm_LK cd_LK ct_LK oc_S kv_S dc_S pm_S cd_S ct_S oc_FL kv_FL dc_FL pm_FL cd_FL ct_FL oc_DT kv_DT dc_DT pm_DT cd_DT ct_DT oc_SB kv_SB dc_SB pm_SB cd_SB ct_SB oc_OB kv_OB dc_OB pm_OB cd_OB ct_OB oc_BO kv_BO dc_BO pm_BO cd_BO ct_BO oc_OT kv_OT dc_OT pm_OT cd_OT ct_OT oc_NT kv_NT dc_NT pm_NT cd_NT ct_NT oc_TG kv_TG dc_TG pm_TG cd_TG ct_TG oc_V kv_V dc_V pm_V cd_V ct_V : Value} {od_xCB an_xCB od_xCI an_xCI od_xC3 an_xC3 od_xCE an_xCE od_xCM an_xCM od_W an_W od_LB an_LB od_Q an_Q od_KB an_KB od_TF an_TF od_tI an_tI od_tE an_tE od_tH an_tH od_tB an_tB od_CR an_CR od_CC2 an_CC2 od_TO an_TO od_cI an_cI dTcI od_I3 an_I3 od_RO an_RO od_LR an_LR od_CH an_CH od_WR an_WR od_BU an_BU od_BT an_BT od_bI an_bI dTbI dEbI od_bE an_bE od_bo an_bo od_ba an_ba od_FB an_FB od_bc an_bc od_bl an_bl od_bw an_bw od_bu an_bu od_IW an_IW od_X an_X od_H an_H od_D an_D od_P an_P od_K an_K od_N an_N od_RD an_RD od_LC an_LC od_LE an_LE od_BA an_BA od_AW an_AW od_BH an_BH od_B an_B od_FI an_FI od_LW an_LW od_LO an_LO od_LK an_LK od_S an_S od_FL an_FL od_DT an_DT od_SB an_SB od_OB an_OB od_BO an_BO od_OT an_OT od_NT an_NT od_TG an_TG od_V an_V : Option Addr} {sl_xCB sl_xCI sl_xC3 sl_xCE sl_xCM sl_W sl_LB sl_Q sl_KB sl_TF sl_tI sl_tE sl_tH sl_tB sl_CR sl_CC2 sl_TO sl_cI sTcI sl_I3 sl_RO sl_LR sl_CH sl_WR sl_BU sl_BT sl_bI sTbI sEbI sl_bE sl_bo sl_ba sl_FB sl_bc sl_bl sl_bw sl_bu sl_IW sl_X sl_H sl_D sl_P sl_K sl_N sl_RD sl_LC sl_LE sl_BA sl_AW sl_BH sl_B sl_FI sl_LW sl_LO sl_LK sl_S sl_FL sl_DT sl_SB sl_OB sl_BO sl_OT sl_NT sl_TG sl_V : Array (Option Value)} {tM tL tG : Tok} {nTcI nTbI nEbI : Nat}
    {nmCB qCB : Str} {NCB : Addr} {bsCB : List Value} {snCB : List Str} {subCB : List Value} {abCB : Bool} {colCB : Option Bool} {ddCB : Option Addr} {m0CB m1CB m2CB m3CB m5CB : Option Value}
    {nmCI qCI : Str} {NCI : Addr} {bsCI : List Value} {snCI : List Str} {subCI : List Value} {abCI : Bool} {colCI : Option Bool} {ddCI : Option Addr} {m0CI m1CI m2CI m3CI m5CI : Option Value}
    {nmC3 qC3 : Str} {NC3 : Addr} {bsC3 : List Value} {snC3 : List Str} {subC3 : List Value} {abC3 : Bool} {colC3 : Option Bool} {ddC3 : Option Addr} {m0C3 m1C3 m2C3 m3C3 m5C3 : Option Value}
    {nmCE qCE : Str} {NCE : Addr} {bsCE : List Value} {snCE : List Str} {subCE : List Value} {abCE : Bool} {colCE : Option Bool} {ddCE : Option Addr} {m0CE m1CE m2CE m3CE m5CE : Option Value}
    {nmCM qCM : Str} {NCM : Addr} {bsCM : List Value} {snCM : List Str} {subCM : List Value} {abCM : Bool} {colCM : Option Bool} {ddCM : Option Addr} {m0CM m1CM m2CM m3CM m5CM : Option Value}
    (z_len : PySem.W.nsIn K mainGlobals "len" = some none)
    (z_isinstance : PySem.W.nsIn K mainGlobals "isinstance" = some none)
    (z_int : PySem.W.nsIn K mainGlobals "int" = some none)
    (z_bool : PySem.W.nsIn K mainGlobals "bool" = some none)
    (z_list : PySem.W.nsIn K mainGlobals "list" = some none)
    (z_tuple : PySem.W.nsIn K mainGlobals "tuple" = some none)
    (z_range : PySem.W.nsIn K mainGlobals "range" = some none)
    (z_abs : PySem.W.nsIn K mainGlobals "abs" = some none)
    (z_enumerate : PySem.W.nsIn K mainGlobals "enumerate" = some none)
    (z_all : PySem.W.nsIn K mainGlobals "all" = some none)
    (z_zip : PySem.W.nsIn K mainGlobals "zip" = some none)
    (z_str : PySem.W.nsIn K mainGlobals "str" = some none)
    (z_sorted : PySem.W.nsIn K mainGlobals "sorted" = some none)
    (z_set : PySem.W.nsIn K mainGlobals "set" = some none)
    (z_min : PySem.W.nsIn K mainGlobals "min" = some none)
    (z_reversed : PySem.W.nsIn K mainGlobals "reversed" = some none)
    (gM : PySem.W.nsIn K mainGlobals "MOST_TIES" = some (some (.int 4 tM)))
    (gL : PySem.W.nsIn K mainGlobals "MOST_LABEL" = some (some (.int 1000000000 tL)))
    (gG : PySem.W.nsIn K mainGlobals "MOST_GUESTS" = some (some (.int 60 tG)))
    (aCB : PySem.W.nsIn K mainGlobals "BadTies" = some (some (.ref CB)))
    (axCB : PySem.W.findIn K (.ref CB) "__init__" = some (some (.ref f_xCB)))
    (ixCB : PySem.W.typeIn K (.ref f_xCB) = some (.type "function"))
    (lxCB : K.lookup f_xCB = some ⟨oc_xCB, od_xCB, .func (PySem.W.fnOf "__init__" "BadTies.__init__" (defArgs s_BadTies_init) (defBody s_BadTies_init) (defScope s_BadTies_init) .none kv_xCB dc_xCB pm_xCB an_xCB cd_xCB ct_xCB), sl_xCB⟩)
    (cxCB : PySem.W.codeIn K cd_xCB "BadTies.__init__" = true)
    (kxCB : PySem.W.keepIn K (.ref f_xCB) = true)
    (xCB : K.lookup CB = some (excClassObj nmCB qCB CB NCB bsCB [.ref GE, .type "ValueError", .type "Exception", .type "BaseException", .type "object"] true snCB subCB abCB colCB ddCB m0CB m1CB m2CB m3CB m5CB "ValueError.__new__"))
    (saCB : PySem.W.findIn K (.ref CB) "__setattr__" = some (some (.builtin "object.__setattr__")))
    (gaCB : PySem.W.findIn K (.ref CB) "__getattribute__" = some (some (.builtin "BaseException.__getattribute__")))
    (ggCB : PySem.W.findIn K (.ref CB) "__getattr__" = some none)
    (no0CB : PySem.W.findIn K (.ref CB) "what" = some none)
    (kcCB : PySem.W.keepIn K (.ref CB) = true)
    (exCB : PySem.W.subIn K (.ref CB) (.type "BaseException") = some true)
    (tyCB : PySem.W.typeIn K (.ref CB) = some (.type "type"))
    (hdCB : PySem.W.hasDictIn K CB = true)
    (icCB : PySem.W.isClsIn K CB = true)
    (scCB : PySem.W.subIn K (.ref CB) (.ref CB) = some true)
    (aCI : PySem.W.nsIn K mainGlobals "NoTie" = some (some (.ref CI)))
    (axCI : PySem.W.findIn K (.ref CI) "__init__" = some (some (.ref f_xCI)))
    (ixCI : PySem.W.typeIn K (.ref f_xCI) = some (.type "function"))
    (lxCI : K.lookup f_xCI = some ⟨oc_xCI, od_xCI, .func (PySem.W.fnOf "__init__" "NoTie.__init__" (defArgs s_NoTie_init) (defBody s_NoTie_init) (defScope s_NoTie_init) .none kv_xCI dc_xCI pm_xCI an_xCI cd_xCI ct_xCI), sl_xCI⟩)
    (cxCI : PySem.W.codeIn K cd_xCI "NoTie.__init__" = true)
    (kxCI : PySem.W.keepIn K (.ref f_xCI) = true)
    (xCI : K.lookup CI = some (excClassObj nmCI qCI CI NCI bsCI [.ref GE, .type "ValueError", .type "Exception", .type "BaseException", .type "object"] true snCI subCI abCI colCI ddCI m0CI m1CI m2CI m3CI m5CI "ValueError.__new__"))
    (saCI : PySem.W.findIn K (.ref CI) "__setattr__" = some (some (.builtin "object.__setattr__")))
    (gaCI : PySem.W.findIn K (.ref CI) "__getattribute__" = some (some (.builtin "BaseException.__getattribute__")))
    (ggCI : PySem.W.findIn K (.ref CI) "__getattr__" = some none)
    (no0CI : PySem.W.findIn K (.ref CI) "tie" = some none)
    (kcCI : PySem.W.keepIn K (.ref CI) = true)
    (exCI : PySem.W.subIn K (.ref CI) (.type "BaseException") = some true)
    (tyCI : PySem.W.typeIn K (.ref CI) = some (.type "type"))
    (hdCI : PySem.W.hasDictIn K CI = true)
    (icCI : PySem.W.isClsIn K CI = true)
    (scCI : PySem.W.subIn K (.ref CI) (.ref CI) = some true)
    (aC3 : PySem.W.nsIn K mainGlobals "NoThree" = some (some (.ref C3)))
    (axC3 : PySem.W.findIn K (.ref C3) "__init__" = some (some (.ref f_xC3)))
    (ixC3 : PySem.W.typeIn K (.ref f_xC3) = some (.type "function"))
    (lxC3 : K.lookup f_xC3 = some ⟨oc_xC3, od_xC3, .func (PySem.W.fnOf "__init__" "NoThree.__init__" (defArgs s_NoThree_init) (defBody s_NoThree_init) (defScope s_NoThree_init) .none kv_xC3 dc_xC3 pm_xC3 an_xC3 cd_xC3 ct_xC3), sl_xC3⟩)
    (cxC3 : PySem.W.codeIn K cd_xC3 "NoThree.__init__" = true)
    (kxC3 : PySem.W.keepIn K (.ref f_xC3) = true)
    (xC3 : K.lookup C3 = some (excClassObj nmC3 qC3 C3 NC3 bsC3 [.ref GE, .type "ValueError", .type "Exception", .type "BaseException", .type "object"] true snC3 subC3 abC3 colC3 ddC3 m0C3 m1C3 m2C3 m3C3 m5C3 "ValueError.__new__"))
    (saC3 : PySem.W.findIn K (.ref C3) "__setattr__" = some (some (.builtin "object.__setattr__")))
    (gaC3 : PySem.W.findIn K (.ref C3) "__getattribute__" = some (some (.builtin "BaseException.__getattribute__")))
    (ggC3 : PySem.W.findIn K (.ref C3) "__getattr__" = some none)
    (no0C3 : PySem.W.findIn K (.ref C3) "three" = some none)
    (kcC3 : PySem.W.keepIn K (.ref C3) = true)
    (exC3 : PySem.W.subIn K (.ref C3) (.type "BaseException") = some true)
    (tyC3 : PySem.W.typeIn K (.ref C3) = some (.type "type"))
    (hdC3 : PySem.W.hasDictIn K C3 = true)
    (icC3 : PySem.W.isClsIn K C3 = true)
    (scC3 : PySem.W.subIn K (.ref C3) (.ref C3) = some true)
    (aCE : PySem.W.nsIn K mainGlobals "BadBook" = some (some (.ref CE)))
    (axCE : PySem.W.findIn K (.ref CE) "__init__" = some (some (.ref f_xCE)))
    (ixCE : PySem.W.typeIn K (.ref f_xCE) = some (.type "function"))
    (lxCE : K.lookup f_xCE = some ⟨oc_xCE, od_xCE, .func (PySem.W.fnOf "__init__" "BadBook.__init__" (defArgs s_BadBook_init) (defBody s_BadBook_init) (defScope s_BadBook_init) .none kv_xCE dc_xCE pm_xCE an_xCE cd_xCE ct_xCE), sl_xCE⟩)
    (cxCE : PySem.W.codeIn K cd_xCE "BadBook.__init__" = true)
    (kxCE : PySem.W.keepIn K (.ref f_xCE) = true)
    (xCE : K.lookup CE = some (excClassObj nmCE qCE CE NCE bsCE [.ref GE, .type "ValueError", .type "Exception", .type "BaseException", .type "object"] true snCE subCE abCE colCE ddCE m0CE m1CE m2CE m3CE m5CE "ValueError.__new__"))
    (saCE : PySem.W.findIn K (.ref CE) "__setattr__" = some (some (.builtin "object.__setattr__")))
    (gaCE : PySem.W.findIn K (.ref CE) "__getattribute__" = some (some (.builtin "BaseException.__getattribute__")))
    (ggCE : PySem.W.findIn K (.ref CE) "__getattr__" = some none)
    (no0CE : PySem.W.findIn K (.ref CE) "index" = some none)
    (no1CE : PySem.W.findIn K (.ref CE) "what" = some none)
    (kcCE : PySem.W.keepIn K (.ref CE) = true)
    (exCE : PySem.W.subIn K (.ref CE) (.type "BaseException") = some true)
    (tyCE : PySem.W.typeIn K (.ref CE) = some (.type "type"))
    (hdCE : PySem.W.hasDictIn K CE = true)
    (icCE : PySem.W.isClsIn K CE = true)
    (scCE : PySem.W.subIn K (.ref CE) (.ref CE) = some true)
    (aCM : PySem.W.nsIn K mainGlobals "BadCompany" = some (some (.ref CM)))
    (axCM : PySem.W.findIn K (.ref CM) "__init__" = some (some (.ref f_xCM)))
    (ixCM : PySem.W.typeIn K (.ref f_xCM) = some (.type "function"))
    (lxCM : K.lookup f_xCM = some ⟨oc_xCM, od_xCM, .func (PySem.W.fnOf "__init__" "BadCompany.__init__" (defArgs s_BadCompany_init) (defBody s_BadCompany_init) (defScope s_BadCompany_init) .none kv_xCM dc_xCM pm_xCM an_xCM cd_xCM ct_xCM), sl_xCM⟩)
    (cxCM : PySem.W.codeIn K cd_xCM "BadCompany.__init__" = true)
    (kxCM : PySem.W.keepIn K (.ref f_xCM) = true)
    (xCM : K.lookup CM = some (excClassObj nmCM qCM CM NCM bsCM [.ref GE, .type "ValueError", .type "Exception", .type "BaseException", .type "object"] true snCM subCM abCM colCM ddCM m0CM m1CM m2CM m3CM m5CM "ValueError.__new__"))
    (saCM : PySem.W.findIn K (.ref CM) "__setattr__" = some (some (.builtin "object.__setattr__")))
    (gaCM : PySem.W.findIn K (.ref CM) "__getattribute__" = some (some (.builtin "BaseException.__getattribute__")))
    (ggCM : PySem.W.findIn K (.ref CM) "__getattr__" = some none)
    (no0CM : PySem.W.findIn K (.ref CM) "index" = some none)
    (no1CM : PySem.W.findIn K (.ref CM) "what" = some none)
    (kcCM : PySem.W.keepIn K (.ref CM) = true)
    (exCM : PySem.W.subIn K (.ref CM) (.type "BaseException") = some true)
    (tyCM : PySem.W.typeIn K (.ref CM) = some (.type "type"))
    (hdCM : PySem.W.hasDictIn K CM = true)
    (icCM : PySem.W.isClsIn K CM = true)
    (scCM : PySem.W.subIn K (.ref CM) (.ref CM) = some true)
    (aCT : PySem.W.nsIn K mainGlobals "Ties" = some (some (.ref CT)))
    (pgCT : PySem.W.plainGet K CT Str.empty = true)
    (hdCT : PySem.W.hasDictIn K CT = true)
    (poCT : PySem.W.plainOver K CT = true)
    (saCT : PySem.W.findIn K (.ref CT) "__setattr__" = some (some (.builtin "object.__setattr__")))
    (mkCT : PySem.W.makesIn K CT = true)
    (kcCT : PySem.W.keepIn K (.ref CT) = true)
    (n0CT : PySem.W.findIn K (.ref CT) "backs" = some none)
    (n1CT : PySem.W.findIn K (.ref CT) "many" = some none)
    (haCT : PySem.W.findIn K (.ref CT) "__class__" = some (some (.builtin "object.__class__")))
    (hn0 : PySem.W.specialIn K (.builtin "object.__class__") "__get__" = some (some (.builtin "getset_descriptor.__get__")))
    (htk0 : PySem.W.takesIn K (.builtin "object.__class__") = some true)
    (hmCT : PySem.W.mroIn K CT (.type "object") = some true)
    (icCT : PySem.W.isClsIn K CT = true)
    (tyCT : PySem.W.typeIn K (.ref CT) = some (.type "type"))
    (suCT : PySem.W.subIn K (.type "tuple") (.ref CT) = some false)
    (nfCT : PySem.W.notFirst K CT (.type "tuple") = true)
    (slCT : PySem.W.subIn K (.type "list") (.ref CT) = some false)
    (aCC : PySem.W.nsIn K mainGlobals "Company" = some (some (.ref CC)))
    (pgCC : PySem.W.plainGet K CC Str.empty = true)
    (hdCC : PySem.W.hasDictIn K CC = true)
    (poCC : PySem.W.plainOver K CC = true)
    (saCC : PySem.W.findIn K (.ref CC) "__setattr__" = some (some (.builtin "object.__setattr__")))
    (mkCC : PySem.W.makesIn K CC = true)
    (kcCC : PySem.W.keepIn K (.ref CC) = true)
    (n0CC : PySem.W.findIn K (.ref CC) "ties" = some none)
    (n1CC : PySem.W.findIn K (.ref CC) "guests" = some none)
    (n2CC : PySem.W.findIn K (.ref CC) "rows" = some none)
    (n3CC : PySem.W.findIn K (.ref CC) "table" = some none)
    (n4CC : PySem.W.findIn K (.ref CC) "_places" = some none)
    (aCK : PySem.W.nsIn K mainGlobals "Book" = some (some (.ref CK)))
    (pgCK : PySem.W.plainGet K CK Str.empty = true)
    (hdCK : PySem.W.hasDictIn K CK = true)
    (poCK : PySem.W.plainOver K CK = true)
    (saCK : PySem.W.findIn K (.ref CK) "__setattr__" = some (some (.builtin "object.__setattr__")))
    (mkCK : PySem.W.makesIn K CK = true)
    (kcCK : PySem.W.keepIn K (.ref CK) = true)
    (n0CK : PySem.W.findIn K (.ref CK) "ties" = some none)
    (n1CK : PySem.W.findIn K (.ref CK) "barred" = some none)
    (n2CK : PySem.W.findIn K (.ref CK) "least_barred" = some none)
    (n3CK : PySem.W.findIn K (.ref CK) "bar_table" = some none)
    (haCK : PySem.W.findIn K (.ref CK) "__class__" = some (some (.builtin "object.__class__")))
    (hmCK : PySem.W.mroIn K CK (.type "object") = some true)
    (icCK : PySem.W.isClsIn K CK = true)
    (tyCK : PySem.W.typeIn K (.ref CK) = some (.type "type"))
    (suCK : PySem.W.subIn K (.type "tuple") (.ref CK) = some false)
    (nfCK : PySem.W.notFirst K CK (.type "tuple") = true)
    (siCK : PySem.W.subIn K (.type "int") (.ref CK) = some false)
    (sfCK : PySem.W.selfFirst K CK = true)
    (aGE : PySem.W.nsIn K mainGlobals "GuestError" = some (some (.ref GE)))
    (icGE : PySem.W.isClsIn K GE = true)
    (tyGE : PySem.W.typeIn K (.ref GE) = some (.type "type"))
    (aCO : PySem.W.nsIn K mainGlobals "OtherTies" = some (some (.ref CO)))
    (xCO : PySem.W.excIn K CO [.type "ValueError", .type "Exception", .type "BaseException", .type "object"] "ValueError.__new__" = true)
    (kcCO : PySem.W.keepIn K (.ref CO) = true)
    (exCO : PySem.W.subIn K (.ref CO) (.type "BaseException") = some true)
    (tyCO : PySem.W.typeIn K (.ref CO) = some (.type "type"))
    (hdCO : PySem.W.hasDictIn K CO = true)
    (icCO : PySem.W.isClsIn K CO = true)
    (scCO : PySem.W.subIn K (.ref CO) (.ref CO) = some true)
    (gaCO : PySem.W.findIn K (.ref CO) "__getattribute__" = some (some (.builtin "BaseException.__getattribute__")))
    (ggCO : PySem.W.findIn K (.ref CO) "__getattr__" = some none)
    (suGECO : PySem.W.subIn K (.ref CO) (.ref GE) = some true)
    (haCO : PySem.W.findIn K (.ref CO) "__class__" = some (some (.builtin "object.__class__")))
    (hmCO : PySem.W.mroIn K CO (.type "object") = some true)
    (suGEC3 : PySem.W.subIn K (.ref C3) (.ref GE) = some true)
    (haC3 : PySem.W.findIn K (.ref C3) "__class__" = some (some (.builtin "object.__class__")))
    (hmC3 : PySem.W.mroIn K C3 (.type "object") = some true)
    (aW : PySem.W.nsIn K mainGlobals "is_whole" = some (some (.ref f_W)))
    (lW : K.lookup f_W = some ⟨oc_W, od_W, .func (PySem.W.fnOf "is_whole" "is_whole" (defArgs s_is_whole) (defBody s_is_whole) (defScope s_is_whole) .none kv_W dc_W pm_W an_W cd_W ct_W), sl_W⟩)
    (cW : PySem.W.codeIn K cd_W "is_whole" = true)
    (kW : PySem.W.keepIn K (.ref f_W) = true)
    (aLB : PySem.W.nsIn K mainGlobals "is_label" = some (some (.ref f_LB)))
    (lLB : K.lookup f_LB = some ⟨oc_LB, od_LB, .func (PySem.W.fnOf "is_label" "is_label" (defArgs s_is_label) (defBody s_is_label) (defScope s_is_label) .none kv_LB dc_LB pm_LB an_LB cd_LB ct_LB), sl_LB⟩)
    (cLB : PySem.W.codeIn K cd_LB "is_label" = true)
    (kLB : PySem.W.keepIn K (.ref f_LB) = true)
    (aQ : PySem.W.nsIn K mainGlobals "is_sequence" = some (some (.ref f_Q)))
    (lQ : K.lookup f_Q = some ⟨oc_Q, od_Q, .func (PySem.W.fnOf "is_sequence" "is_sequence" (defArgs s_is_sequence) (defBody s_is_sequence) (defScope s_is_sequence) .none kv_Q dc_Q pm_Q an_Q cd_Q ct_Q), sl_Q⟩)
    (cQ : PySem.W.codeIn K cd_Q "is_sequence" = true)
    (kQ : PySem.W.keepIn K (.ref f_Q) = true)
    (aKB : PySem.W.nsIn K mainGlobals "check_backs" = some (some (.ref f_KB)))
    (lKB : K.lookup f_KB = some ⟨oc_KB, od_KB, .func (PySem.W.fnOf "check_backs" "check_backs" (defArgs s_check_backs) (defBody s_check_backs) (defScope s_check_backs) .none kv_KB dc_KB pm_KB an_KB cd_KB ct_KB), sl_KB⟩)
    (cKB : PySem.W.codeIn K cd_KB "check_backs" = true)
    (kKB : PySem.W.keepIn K (.ref f_KB) = true)
    (aTF : PySem.W.nsIn K mainGlobals "ties_fault" = some (some (.ref f_TF)))
    (lTF : K.lookup f_TF = some ⟨oc_TF, od_TF, .func (PySem.W.fnOf "ties_fault" "ties_fault" (defArgs s_ties_fault) (defBody s_ties_fault) (defScope s_ties_fault) .none kv_TF dc_TF pm_TF an_TF cd_TF ct_TF), sl_TF⟩)
    (cTF : PySem.W.codeIn K cd_TF "ties_fault" = true)
    (kTF : PySem.W.keepIn K (.ref f_TF) = true)
    (atI : PySem.W.findIn K (.ref CT) "__init__" = some (some (.ref f_tI)))
    (itI : PySem.W.isFn K (.ref f_tI) = true)
    (ltI : K.lookup f_tI = some ⟨oc_tI, od_tI, .func (PySem.W.fnOf "__init__" "Ties.__init__" (defArgs s_Ties_init) (defBody s_Ties_init) (defScope s_Ties_init) .none kv_tI dc_tI pm_tI an_tI cd_tI ct_tI), sl_tI⟩)
    (ctI : PySem.W.codeIn K cd_tI "Ties.__init__" = true)
    (ktI : PySem.W.keepIn K (.ref f_tI) = true)
    (atE : PySem.W.findIn K (.ref CT) "__eq__" = some (some (.ref f_tE)))
    (itE : PySem.W.isFn K (.ref f_tE) = true)
    (ltE : K.lookup f_tE = some ⟨oc_tE, od_tE, .func (PySem.W.fnOf "__eq__" "Ties.__eq__" (defArgs s_Ties_eq) (defBody s_Ties_eq) (defScope s_Ties_eq) .none kv_tE dc_tE pm_tE an_tE cd_tE ct_tE), sl_tE⟩)
    (ctE : PySem.W.codeIn K cd_tE "Ties.__eq__" = true)
    (ktE : PySem.W.keepIn K (.ref f_tE) = true)
    (atH : PySem.W.findIn K (.ref CT) "has" = some (some (.ref f_tH)))
    (itH : PySem.W.isFn K (.ref f_tH) = true)
    (ltH : K.lookup f_tH = some ⟨oc_tH, od_tH, .func (PySem.W.fnOf "has" "Ties.has" (defArgs s_Ties_has) (defBody s_Ties_has) (defScope s_Ties_has) .none kv_tH dc_tH pm_tH an_tH cd_tH ct_tH), sl_tH⟩)
    (ctH : PySem.W.codeIn K cd_tH "Ties.has" = true)
    (ktH : PySem.W.keepIn K (.ref f_tH) = true)
    (atB : PySem.W.findIn K (.ref CT) "back" = some (some (.ref f_tB)))
    (itB : PySem.W.isFn K (.ref f_tB) = true)
    (ltB : K.lookup f_tB = some ⟨oc_tB, od_tB, .func (PySem.W.fnOf "back" "Ties.back" (defArgs s_Ties_back) (defBody s_Ties_back) (defScope s_Ties_back) .none kv_tB dc_tB pm_tB an_tB cd_tB ct_tB), sl_tB⟩)
    (ctB : PySem.W.codeIn K cd_tB "Ties.back" = true)
    (ktB : PySem.W.keepIn K (.ref f_tB) = true)
    (aCR : PySem.W.nsIn K mainGlobals "_check_row" = some (some (.ref f_CR)))
    (lCR : K.lookup f_CR = some ⟨oc_CR, od_CR, .func (PySem.W.fnOf "_check_row" "_check_row" (defArgs s_check_row) (defBody s_check_row) (defScope s_check_row) .none kv_CR dc_CR pm_CR an_CR cd_CR ct_CR), sl_CR⟩)
    (cCR : PySem.W.codeIn K cd_CR "_check_row" = true)
    (kCR : PySem.W.keepIn K (.ref f_CR) = true)
    (aCC2 : PySem.W.nsIn K mainGlobals "_check_company" = some (some (.ref f_CC2)))
    (lCC2 : K.lookup f_CC2 = some ⟨oc_CC2, od_CC2, .func (PySem.W.fnOf "_check_company" "_check_company" (defArgs s_check_company) (defBody s_check_company) (defScope s_check_company) .none kv_CC2 dc_CC2 pm_CC2 an_CC2 cd_CC2 ct_CC2), sl_CC2⟩)
    (cCC2 : PySem.W.codeIn K cd_CC2 "_check_company" = true)
    (kCC2 : PySem.W.keepIn K (.ref f_CC2) = true)
    (aTO : PySem.W.nsIn K mainGlobals "_table_of" = some (some (.ref f_TO)))
    (lTO : K.lookup f_TO = some ⟨oc_TO, od_TO, .func (PySem.W.fnOf "_table_of" "_table_of" (defArgs s_table_of) (defBody s_table_of) (defScope s_table_of) .none kv_TO dc_TO pm_TO an_TO cd_TO ct_TO), sl_TO⟩)
    (cTO : PySem.W.codeIn K cd_TO "_table_of" = true)
    (kTO : PySem.W.keepIn K (.ref f_TO) = true)
    (acI : PySem.W.findIn K (.ref CC) "__init__" = some (some (.ref f_cI)))
    (icI : PySem.W.isFn K (.ref f_cI) = true)
    (lcI : K.lookup f_cI = some ⟨oc_cI, od_cI, .func (PySem.W.fnOf "__init__" "Company.__init__" (defArgs s_Company_init) (defBody s_Company_init) (defScope s_Company_init) (.ref TdcI) kv_cI dc_cI pm_cI an_cI cd_cI ct_cI), sl_cI⟩)
    (lTcI : K.lookup TdcI = some ⟨cTcI, dTcI, .seq #[.ref e1cI, .ref e2cI] nTcI, sTcI⟩)
    (ccI : PySem.W.codeIn K cd_cI "Company.__init__" = true)
    (kcI : PySem.W.keepIn K (.ref f_cI) = true)
    (aI3 : PySem.W.nsIn K mainGlobals "is_three" = some (some (.ref f_I3)))
    (lI3 : K.lookup f_I3 = some ⟨oc_I3, od_I3, .func (PySem.W.fnOf "is_three" "is_three" (defArgs s_is_three) (defBody s_is_three) (defScope s_is_three) .none kv_I3 dc_I3 pm_I3 an_I3 cd_I3 ct_I3), sl_I3⟩)
    (cI3 : PySem.W.codeIn K cd_I3 "is_three" = true)
    (kI3 : PySem.W.keepIn K (.ref f_I3) = true)
    (aRO : PySem.W.nsIn K mainGlobals "readings_of" = some (some (.ref f_RO)))
    (lRO : K.lookup f_RO = some ⟨oc_RO, od_RO, .func (PySem.W.fnOf "readings_of" "readings_of" (defArgs s_readings_of) (defBody s_readings_of) (defScope s_readings_of) .none kv_RO dc_RO pm_RO an_RO cd_RO ct_RO), sl_RO⟩)
    (cRO : PySem.W.codeIn K cd_RO "readings_of" = true)
    (kRO : PySem.W.keepIn K (.ref f_RO) = true)
    (aLR : PySem.W.nsIn K mainGlobals "least_reading" = some (some (.ref f_LR)))
    (lLR : K.lookup f_LR = some ⟨oc_LR, od_LR, .func (PySem.W.fnOf "least_reading" "least_reading" (defArgs s_least_reading) (defBody s_least_reading) (defScope s_least_reading) .none kv_LR dc_LR pm_LR an_LR cd_LR ct_LR), sl_LR⟩)
    (cLR : PySem.W.codeIn K cd_LR "least_reading" = true)
    (kLR : PySem.W.keepIn K (.ref f_LR) = true)
    (aCH : PySem.W.nsIn K mainGlobals "_check_threes" = some (some (.ref f_CH)))
    (lCH : K.lookup f_CH = some ⟨oc_CH, od_CH, .func (PySem.W.fnOf "_check_threes" "_check_threes" (defArgs s_check_threes) (defBody s_check_threes) (defScope s_check_threes) .none kv_CH dc_CH pm_CH an_CH cd_CH ct_CH), sl_CH⟩)
    (cCH : PySem.W.codeIn K cd_CH "_check_threes" = true)
    (kCH : PySem.W.keepIn K (.ref f_CH) = true)
    (aWR : PySem.W.nsIn K mainGlobals "_with_readings" = some (some (.ref f_WR)))
    (lWR : K.lookup f_WR = some ⟨oc_WR, od_WR, .func (PySem.W.fnOf "_with_readings" "_with_readings" (defArgs s_with_readings) (defBody s_with_readings) (defScope s_with_readings) .none kv_WR dc_WR pm_WR an_WR cd_WR ct_WR), sl_WR⟩)
    (cWR : PySem.W.codeIn K cd_WR "_with_readings" = true)
    (kWR : PySem.W.keepIn K (.ref f_WR) = true)
    (aBU : PySem.W.nsIn K mainGlobals "_but" = some (some (.ref f_BU)))
    (lBU : K.lookup f_BU = some ⟨oc_BU, od_BU, .func (PySem.W.fnOf "_but" "_but" (defArgs s_but) (defBody s_but) (defScope s_but) .none kv_BU dc_BU pm_BU an_BU cd_BU ct_BU), sl_BU⟩)
    (cBU : PySem.W.codeIn K cd_BU "_but" = true)
    (kBU : PySem.W.keepIn K (.ref f_BU) = true)
    (aBT : PySem.W.nsIn K mainGlobals "_bar_table" = some (some (.ref f_BT)))
    (lBT : K.lookup f_BT = some ⟨oc_BT, od_BT, .func (PySem.W.fnOf "_bar_table" "_bar_table" (defArgs s_bar_table) (defBody s_bar_table) (defScope s_bar_table) .none kv_BT dc_BT pm_BT an_BT cd_BT ct_BT), sl_BT⟩)
    (cBT : PySem.W.codeIn K cd_BT "_bar_table" = true)
    (kBT : PySem.W.keepIn K (.ref f_BT) = true)
    (abI : PySem.W.findIn K (.ref CK) "__init__" = some (some (.ref f_bI)))
    (ibI : PySem.W.isFn K (.ref f_bI) = true)
    (lbI : K.lookup f_bI = some ⟨oc_bI, od_bI, .func (PySem.W.fnOf "__init__" "Book.__init__" (defArgs s_Book_init) (defBody s_Book_init) (defScope s_Book_init) (.ref TdbI) kv_bI dc_bI pm_bI an_bI cd_bI ct_bI), sl_bI⟩)
    (lTbI : K.lookup TdbI = some ⟨cTbI, dTbI, .seq #[.ref e1bI] nTbI, sTbI⟩)
    (lEbI : K.lookup e1bI = some ⟨.type "tuple", dEbI, .seq #[] nEbI, sEbI⟩)
    (cbI : PySem.W.codeIn K cd_bI "Book.__init__" = true)
    (kbI : PySem.W.keepIn K (.ref f_bI) = true)
    (abE : PySem.W.findIn K (.ref CK) "__eq__" = some (some (.ref f_bE)))
    (ibE : PySem.W.isFn K (.ref f_bE) = true)
    (lbE : K.lookup f_bE = some ⟨oc_bE, od_bE, .func (PySem.W.fnOf "__eq__" "Book.__eq__" (defArgs s_Book_eq) (defBody s_Book_eq) (defScope s_Book_eq) .none kv_bE dc_bE pm_bE an_bE cd_bE ct_bE), sl_bE⟩)
    (cbE : PySem.W.codeIn K cd_bE "Book.__eq__" = true)
    (kbE : PySem.W.keepIn K (.ref f_bE) = true)
    (abo : PySem.W.findIn K (.ref CK) "__or__" = some (some (.ref f_bo)))
    (ibo : PySem.W.isFn K (.ref f_bo) = true)
    (lbo : K.lookup f_bo = some ⟨oc_bo, od_bo, .func (PySem.W.fnOf "__or__" "Book.__or__" (defArgs s_Book_or) (defBody s_Book_or) (defScope s_Book_or) .none kv_bo dc_bo pm_bo an_bo cd_bo ct_bo), sl_bo⟩)
    (cbo : PySem.W.codeIn K cd_bo "Book.__or__" = true)
    (kbo : PySem.W.keepIn K (.ref f_bo) = true)
    (aba : PySem.W.findIn K (.ref CK) "__and__" = some (some (.ref f_ba)))
    (iba : PySem.W.isFn K (.ref f_ba) = true)
    (lba : K.lookup f_ba = some ⟨oc_ba, od_ba, .func (PySem.W.fnOf "__and__" "Book.__and__" (defArgs s_Book_and) (defBody s_Book_and) (defScope s_Book_and) .none kv_ba dc_ba pm_ba an_ba cd_ba ct_ba), sl_ba⟩)
    (cba : PySem.W.codeIn K cd_ba "Book.__and__" = true)
    (kba : PySem.W.keepIn K (.ref f_ba) = true)
    (aFB : PySem.W.nsIn K mainGlobals "_first_barred" = some (some (.ref f_FB)))
    (lFB : K.lookup f_FB = some ⟨oc_FB, od_FB, .func (PySem.W.fnOf "_first_barred" "_first_barred" (defArgs s_first_barred) (defBody s_first_barred) (defScope s_first_barred) .none kv_FB dc_FB pm_FB an_FB cd_FB ct_FB), sl_FB⟩)
    (cFB : PySem.W.codeIn K cd_FB "_first_barred" = true)
    (kFB : PySem.W.keepIn K (.ref f_FB) = true)
    (abc : PySem.W.findIn K (.ref CK) "company_fault" = some (some (.ref f_bc)))
    (ibc : PySem.W.isFn K (.ref f_bc) = true)
    (lbc : K.lookup f_bc = some ⟨oc_bc, od_bc, .func (PySem.W.fnOf "company_fault" "Book.company_fault" (defArgs s_company_fault) (defBody s_company_fault) (defScope s_company_fault) .none kv_bc dc_bc pm_bc an_bc cd_bc ct_bc), sl_bc⟩)
    (cbc : PySem.W.codeIn K cd_bc "Book.company_fault" = true)
    (kbc : PySem.W.keepIn K (.ref f_bc) = true)
    (abl : PySem.W.findIn K (.ref CK) "lets" = some (some (.ref f_bl)))
    (ibl : PySem.W.isFn K (.ref f_bl) = true)
    (lbl : K.lookup f_bl = some ⟨oc_bl, od_bl, .func (PySem.W.fnOf "lets" "Book.lets" (defArgs s_lets) (defBody s_lets) (defScope s_lets) .none kv_bl dc_bl pm_bl an_bl cd_bl ct_bl), sl_bl⟩)
    (cbl : PySem.W.codeIn K cd_bl "Book.lets" = true)
    (kbl : PySem.W.keepIn K (.ref f_bl) = true)
    (abw : PySem.W.findIn K (.ref CK) "with_barred" = some (some (.ref f_bw)))
    (ibw : PySem.W.isFn K (.ref f_bw) = true)
    (lbw : K.lookup f_bw = some ⟨oc_bw, od_bw, .func (PySem.W.fnOf "with_barred" "Book.with_barred" (defArgs s_with_barred) (defBody s_with_barred) (defScope s_with_barred) .none kv_bw dc_bw pm_bw an_bw cd_bw ct_bw), sl_bw⟩)
    (cbw : PySem.W.codeIn K cd_bw "Book.with_barred" = true)
    (kbw : PySem.W.keepIn K (.ref f_bw) = true)
    (abu : PySem.W.findIn K (.ref CK) "without_barred" = some (some (.ref f_bu)))
    (ibu : PySem.W.isFn K (.ref f_bu) = true)
    (lbu : K.lookup f_bu = some ⟨oc_bu, od_bu, .func (PySem.W.fnOf "without_barred" "Book.without_barred" (defArgs s_without_barred) (defBody s_without_barred) (defScope s_without_barred) .none kv_bu dc_bu pm_bu an_bu cd_bu ct_bu), sl_bu⟩)
    (cbu : PySem.W.codeIn K cd_bu "Book.without_barred" = true)
    (kbu : PySem.W.keepIn K (.ref f_bu) = true)
    (aIW : PySem.W.nsIn K mainGlobals "is_within" = some (some (.ref f_IW)))
    (lIW : K.lookup f_IW = some ⟨oc_IW, od_IW, .func (PySem.W.fnOf "is_within" "is_within" (defArgs s_is_within) (defBody s_is_within) (defScope s_is_within) .none kv_IW dc_IW pm_IW an_IW cd_IW ct_IW), sl_IW⟩)
    (cIW : PySem.W.codeIn K cd_IW "is_within" = true)
    (kIW : PySem.W.keepIn K (.ref f_IW) = true)
    (aX : PySem.W.nsIn K mainGlobals "_law_mix" = some (some (.ref f_X)))
    (lX : K.lookup f_X = some ⟨oc_X, od_X, .func (PySem.W.fnOf "_law_mix" "_law_mix" (defArgs s_Lmix) (defBody s_Lmix) (defScope s_Lmix) .none kv_X dc_X pm_X an_X cd_X ct_X), sl_X⟩)
    (cX : PySem.W.codeIn K cd_X "_law_mix" = true)
    (kX : PySem.W.keepIn K (.ref f_X) = true)
    (aH : PySem.W.nsIn K mainGlobals "_law_hand" = some (some (.ref f_H)))
    (lH : K.lookup f_H = some ⟨oc_H, od_H, .func (PySem.W.fnOf "_law_hand" "_law_hand" (defArgs s_Lhand) (defBody s_Lhand) (defScope s_Lhand) .none kv_H dc_H pm_H an_H cd_H ct_H), sl_H⟩)
    (cH : PySem.W.codeIn K cd_H "_law_hand" = true)
    (kH : PySem.W.keepIn K (.ref f_H) = true)
    (aD : PySem.W.nsIn K mainGlobals "_law_draw" = some (some (.ref f_D)))
    (lD : K.lookup f_D = some ⟨oc_D, od_D, .func (PySem.W.fnOf "_law_draw" "_law_draw" (defArgs s_Ldraw) (defBody s_Ldraw) (defScope s_Ldraw) .none kv_D dc_D pm_D an_D cd_D ct_D), sl_D⟩)
    (cD : PySem.W.codeIn K cd_D "_law_draw" = true)
    (kD : PySem.W.keepIn K (.ref f_D) = true)
    (aP : PySem.W.nsIn K mainGlobals "_law_pick" = some (some (.ref f_P)))
    (lP : K.lookup f_P = some ⟨oc_P, od_P, .func (PySem.W.fnOf "_law_pick" "_law_pick" (defArgs s_Lpick) (defBody s_Lpick) (defScope s_Lpick) .none kv_P dc_P pm_P an_P cd_P ct_P), sl_P⟩)
    (cP : PySem.W.codeIn K cd_P "_law_pick" = true)
    (kP : PySem.W.keepIn K (.ref f_P) = true)
    (aK : PySem.W.nsIn K mainGlobals "_law_backs" = some (some (.ref f_K)))
    (lK : K.lookup f_K = some ⟨oc_K, od_K, .func (PySem.W.fnOf "_law_backs" "_law_backs" (defArgs s_Lbacks) (defBody s_Lbacks) (defScope s_Lbacks) .none kv_K dc_K pm_K an_K cd_K ct_K), sl_K⟩)
    (cK : PySem.W.codeIn K cd_K "_law_backs" = true)
    (kK : PySem.W.keepIn K (.ref f_K) = true)
    (aN : PySem.W.nsIn K mainGlobals "_law_plain" = some (some (.ref f_N)))
    (lN : K.lookup f_N = some ⟨oc_N, od_N, .func (PySem.W.fnOf "_law_plain" "_law_plain" (defArgs s_Lplain) (defBody s_Lplain) (defScope s_Lplain) .none kv_N dc_N pm_N an_N cd_N ct_N), sl_N⟩)
    (cN : PySem.W.codeIn K cd_N "_law_plain" = true)
    (kN : PySem.W.keepIn K (.ref f_N) = true)
    (aRD : PySem.W.nsIn K mainGlobals "_law_readings" = some (some (.ref f_RD)))
    (lRD : K.lookup f_RD = some ⟨oc_RD, od_RD, .func (PySem.W.fnOf "_law_readings" "_law_readings" (defArgs s_Lreadings) (defBody s_Lreadings) (defScope s_Lreadings) .none kv_RD dc_RD pm_RD an_RD cd_RD ct_RD), sl_RD⟩)
    (cRD : PySem.W.codeIn K cd_RD "_law_readings" = true)
    (kRD : PySem.W.keepIn K (.ref f_RD) = true)
    (aLC : PySem.W.nsIn K mainGlobals "_law_classes" = some (some (.ref f_LC)))
    (lLC : K.lookup f_LC = some ⟨oc_LC, od_LC, .func (PySem.W.fnOf "_law_classes" "_law_classes" (defArgs s_Lclasses) (defBody s_Lclasses) (defScope s_Lclasses) .none kv_LC dc_LC pm_LC an_LC cd_LC ct_LC), sl_LC⟩)
    (cLC : PySem.W.codeIn K cd_LC "_law_classes" = true)
    (kLC : PySem.W.keepIn K (.ref f_LC) = true)
    (aLE : PySem.W.nsIn K mainGlobals "_law_let" = some (some (.ref f_LE)))
    (lLE : K.lookup f_LE = some ⟨oc_LE, od_LE, .func (PySem.W.fnOf "_law_let" "_law_let" (defArgs s_Llet) (defBody s_Llet) (defScope s_Llet) .none kv_LE dc_LE pm_LE an_LE cd_LE ct_LE), sl_LE⟩)
    (cLE : PySem.W.codeIn K cd_LE "_law_let" = true)
    (kLE : PySem.W.keepIn K (.ref f_LE) = true)
    (aBA : PySem.W.nsIn K mainGlobals "_law_barred" = some (some (.ref f_BA)))
    (lBA : K.lookup f_BA = some ⟨oc_BA, od_BA, .func (PySem.W.fnOf "_law_barred" "_law_barred" (defArgs s_Lbarred) (defBody s_Lbarred) (defScope s_Lbarred) .none kv_BA dc_BA pm_BA an_BA cd_BA ct_BA), sl_BA⟩)
    (cBA : PySem.W.codeIn K cd_BA "_law_barred" = true)
    (kBA : PySem.W.keepIn K (.ref f_BA) = true)
    (aAW : PySem.W.nsIn K mainGlobals "_law_any_world" = some (some (.ref f_AW)))
    (lAW : K.lookup f_AW = some ⟨oc_AW, od_AW, .func (PySem.W.fnOf "_law_any_world" "_law_any_world" (defArgs s_Lany_world) (defBody s_Lany_world) (defScope s_Lany_world) .none kv_AW dc_AW pm_AW an_AW cd_AW ct_AW), sl_AW⟩)
    (cAW : PySem.W.codeIn K cd_AW "_law_any_world" = true)
    (kAW : PySem.W.keepIn K (.ref f_AW) = true)
    (aBH : PySem.W.nsIn K mainGlobals "_law_bars_handed" = some (some (.ref f_BH)))
    (lBH : K.lookup f_BH = some ⟨oc_BH, od_BH, .func (PySem.W.fnOf "_law_bars_handed" "_law_bars_handed" (defArgs s_Lbars_handed) (defBody s_Lbars_handed) (defScope s_Lbars_handed) .none kv_BH dc_BH pm_BH an_BH cd_BH ct_BH), sl_BH⟩)
    (cBH : PySem.W.codeIn K cd_BH "_law_bars_handed" = true)
    (kBH : PySem.W.keepIn K (.ref f_BH) = true)
    (z_max : PySem.W.nsIn K mainGlobals "max" = some none)
    (aB : PySem.W.nsIn K mainGlobals "_law_labels" = some (some (.ref f_B)))
    (lB : K.lookup f_B = some ⟨oc_B, od_B, .func (PySem.W.fnOf "_law_labels" "_law_labels" (defArgs s_Llabels) (defBody s_Llabels) (defScope s_Llabels) .none kv_B dc_B pm_B an_B cd_B ct_B), sl_B⟩)
    (cB : PySem.W.codeIn K cd_B "_law_labels" = true)
    (kB : PySem.W.keepIn K (.ref f_B) = true)
    (aFI : PySem.W.nsIn K mainGlobals "_law_fits" = some (some (.ref f_FI)))
    (lFI : K.lookup f_FI = some ⟨oc_FI, od_FI, .func (PySem.W.fnOf "_law_fits" "_law_fits" (defArgs s_Lfits) (defBody s_Lfits) (defScope s_Lfits) .none kv_FI dc_FI pm_FI an_FI cd_FI ct_FI), sl_FI⟩)
    (cFI : PySem.W.codeIn K cd_FI "_law_fits" = true)
    (kFI : PySem.W.keepIn K (.ref f_FI) = true)
    (aLW : PySem.W.nsIn K mainGlobals "_law_rows" = some (some (.ref f_LW)))
    (lLW : K.lookup f_LW = some ⟨oc_LW, od_LW, .func (PySem.W.fnOf "_law_rows" "_law_rows" (defArgs s_Lrows) (defBody s_Lrows) (defScope s_Lrows) .none kv_LW dc_LW pm_LW an_LW cd_LW ct_LW), sl_LW⟩)
    (cLW : PySem.W.codeIn K cd_LW "_law_rows" = true)
    (kLW : PySem.W.keepIn K (.ref f_LW) = true)
    (aLO : PySem.W.nsIn K mainGlobals "_law_company" = some (some (.ref f_LO)))
    (lLO : K.lookup f_LO = some ⟨oc_LO, od_LO, .func (PySem.W.fnOf "_law_company" "_law_company" (defArgs s_Lcompany) (defBody s_Lcompany) (defScope s_Lcompany) .none kv_LO dc_LO pm_LO an_LO cd_LO ct_LO), sl_LO⟩)
    (cLO : PySem.W.codeIn K cd_LO "_law_company" = true)
    (kLO : PySem.W.keepIn K (.ref f_LO) = true)
    (aLK : PySem.W.nsIn K mainGlobals "_law_book" = some (some (.ref f_LK)))
    (lLK : K.lookup f_LK = some ⟨oc_LK, od_LK, .func (PySem.W.fnOf "_law_book" "_law_book" (defArgs s_Lbook) (defBody s_Lbook) (defScope s_Lbook) .none kv_LK dc_LK pm_LK an_LK cd_LK ct_LK), sl_LK⟩)
    (cLK : PySem.W.codeIn K cd_LK "_law_book" = true)
    (kLK : PySem.W.keepIn K (.ref f_LK) = true)
    (aS : PySem.W.nsIn K mainGlobals "_law_shape" = some (some (.ref f_S)))
    (lS : K.lookup f_S = some ⟨oc_S, od_S, .func (PySem.W.fnOf "_law_shape" "_law_shape" (defArgs s_Lshape) (defBody s_Lshape) (defScope s_Lshape) .none kv_S dc_S pm_S an_S cd_S ct_S), sl_S⟩)
    (cS : PySem.W.codeIn K cd_S "_law_shape" = true)
    (kS : PySem.W.keepIn K (.ref f_S) = true)
    (aFL : PySem.W.nsIn K mainGlobals "_law_flat" = some (some (.ref f_FL)))
    (lFL : K.lookup f_FL = some ⟨oc_FL, od_FL, .func (PySem.W.fnOf "_law_flat" "_law_flat" (defArgs s_Lflat) (defBody s_Lflat) (defScope s_Lflat) .none kv_FL dc_FL pm_FL an_FL cd_FL ct_FL), sl_FL⟩)
    (cFL : PySem.W.codeIn K cd_FL "_law_flat" = true)
    (kFL : PySem.W.keepIn K (.ref f_FL) = true)
    (aDT : PySem.W.nsIn K mainGlobals "_law_drawn_table" = some (some (.ref f_DT)))
    (lDT : K.lookup f_DT = some ⟨oc_DT, od_DT, .func (PySem.W.fnOf "_law_drawn_table" "_law_drawn_table" (defArgs s_Ldrawn_table) (defBody s_Ldrawn_table) (defScope s_Ldrawn_table) .none kv_DT dc_DT pm_DT an_DT cd_DT ct_DT), sl_DT⟩)
    (cDT : PySem.W.codeIn K cd_DT "_law_drawn_table" = true)
    (kDT : PySem.W.keepIn K (.ref f_DT) = true)
    (aSB : PySem.W.nsIn K mainGlobals "_law_same_barred" = some (some (.ref f_SB)))
    (lSB : K.lookup f_SB = some ⟨oc_SB, od_SB, .func (PySem.W.fnOf "_law_same_barred" "_law_same_barred" (defArgs s_Lsame_barred) (defBody s_Lsame_barred) (defScope s_Lsame_barred) .none kv_SB dc_SB pm_SB an_SB cd_SB ct_SB), sl_SB⟩)
    (cSB : PySem.W.codeIn K cd_SB "_law_same_barred" = true)
    (kSB : PySem.W.keepIn K (.ref f_SB) = true)
    (aOB : PySem.W.nsIn K mainGlobals "_law_other_backs" = some (some (.ref f_OB)))
    (lOB : K.lookup f_OB = some ⟨oc_OB, od_OB, .func (PySem.W.fnOf "_law_other_backs" "_law_other_backs" (defArgs s_Lother_backs) (defBody s_Lother_backs) (defScope s_Lother_backs) .none kv_OB dc_OB pm_OB an_OB cd_OB ct_OB), sl_OB⟩)
    (cOB : PySem.W.codeIn K cd_OB "_law_other_backs" = true)
    (kOB : PySem.W.keepIn K (.ref f_OB) = true)
    (aBO : PySem.W.nsIn K mainGlobals "_law_both" = some (some (.ref f_BO)))
    (lBO : K.lookup f_BO = some ⟨oc_BO, od_BO, .func (PySem.W.fnOf "_law_both" "_law_both" (defArgs s_Lboth) (defBody s_Lboth) (defScope s_Lboth) .none kv_BO dc_BO pm_BO an_BO cd_BO ct_BO), sl_BO⟩)
    (cBO : PySem.W.codeIn K cd_BO "_law_both" = true)
    (kBO : PySem.W.keepIn K (.ref f_BO) = true)
    (aOT : PySem.W.nsIn K mainGlobals "_law_other_ties" = some (some (.ref f_OT)))
    (lOT : K.lookup f_OT = some ⟨oc_OT, od_OT, .func (PySem.W.fnOf "_law_other_ties" "_law_other_ties" (defArgs s_Lother_ties) (defBody s_Lother_ties) (defScope s_Lother_ties) .none kv_OT dc_OT pm_OT an_OT cd_OT ct_OT), sl_OT⟩)
    (cOT : PySem.W.codeIn K cd_OT "_law_other_ties" = true)
    (kOT : PySem.W.keepIn K (.ref f_OT) = true)
    (aNT : PySem.W.nsIn K mainGlobals "_law_no_three" = some (some (.ref f_NT)))
    (lNT : K.lookup f_NT = some ⟨oc_NT, od_NT, .func (PySem.W.fnOf "_law_no_three" "_law_no_three" (defArgs s_Lno_three) (defBody s_Lno_three) (defScope s_Lno_three) .none kv_NT dc_NT pm_NT an_NT cd_NT ct_NT), sl_NT⟩)
    (cNT : PySem.W.codeIn K cd_NT "_law_no_three" = true)
    (kNT : PySem.W.keepIn K (.ref f_NT) = true)
    (aTG : PySem.W.nsIn K mainGlobals "_law_threes_of_guests" = some (some (.ref f_TG)))
    (lTG : K.lookup f_TG = some ⟨oc_TG, od_TG, .func (PySem.W.fnOf "_law_threes_of_guests" "_law_threes_of_guests" (defArgs s_Lthrees_of_guests) (defBody s_Lthrees_of_guests) (defScope s_Lthrees_of_guests) .none kv_TG dc_TG pm_TG an_TG cd_TG ct_TG), sl_TG⟩)
    (cTG : PySem.W.codeIn K cd_TG "_law_threes_of_guests" = true)
    (kTG : PySem.W.keepIn K (.ref f_TG) = true)
    (aV : PySem.W.nsIn K mainGlobals "law" = some (some (.ref f_V)))
    (lV : K.lookup f_V = some ⟨oc_V, od_V, .func (PySem.W.fnOf "law" "law" (defArgs s_law) (defBody s_law) (defScope s_law) .none kv_V dc_V pm_V an_V cd_V ct_V), sl_V⟩)
    (cV : PySem.W.codeIn K cd_V "law" = true)
    (kV : PySem.W.keepIn K (.ref f_V) = true)
    : ∃ fd : FuncData, (∀ (s : Shared) (v : Value), BindsTo s fd ⟨[v], []⟩ [("_law_script", v)]) ∧ ∀ base : Heap, K.In base → base.Ns mainGlobals mg → FnOk l.prog w K mg base CX0 11 fa fd ["_law_script"] (spLaw K) := by
  have e := hfa.symm.trans (PySem.W.mg_of X G aV)
  cases e
  have n_len := PySem.W.mg_none_of X G z_len
  have n_isinstance := PySem.W.mg_none_of X G z_isinstance
  have n_int := PySem.W.mg_none_of X G z_int
  have n_bool := PySem.W.mg_none_of X G z_bool
  have n_list := PySem.W.mg_none_of X G z_list
  have n_tuple := PySem.W.mg_none_of X G z_tuple
  have n_range := PySem.W.mg_none_of X G z_range
  have n_abs := PySem.W.mg_none_of X G z_abs
  have n_enumerate := PySem.W.mg_none_of X G z_enumerate
  have n_all := PySem.W.mg_none_of X G z_all
  have n_zip := PySem.W.mg_none_of X G z_zip
  have n_str := PySem.W.mg_none_of X G z_str
  have n_sorted := PySem.W.mg_none_of X G z_sorted
  have n_set := PySem.W.mg_none_of X G z_set
  have n_min := PySem.W.mg_none_of X G z_min
  have n_reversed := PySem.W.mg_none_of X G z_reversed
  have mM := PySem.W.mg_of X G gM
  have mL := PySem.W.mg_of X G gL
  have mG := PySem.W.mg_of X G gG
  have FxCB := fun_mk (st := s_BadTies_init) lxCB cxCB kxCB
  have bxCB := FxCB.binds (ps := ["self", "what"]) fun _ _ _ _ _ _ us hl => match us, hl with | [_, _], _ => rfl
  have oCB : OexC K CB := ⟨⟨_, _, _, _, _, _, _, _, _, _, _, _, _, _, _, xCB, by first | rfl | decide +kernel⟩, saCB, exCB, tyCB, kcCB⟩
  have xfCB : XfC K CB := ⟨gaCB, ggCB, exCB, hdCB⟩
  have FxCI := fun_mk (st := s_NoTie_init) lxCI cxCI kxCI
  have bxCI := FxCI.binds (ps := ["self", "tie"]) fun _ _ _ _ _ _ us hl => match us, hl with | [_, _], _ => rfl
  have oCI : OexC K CI := ⟨⟨_, _, _, _, _, _, _, _, _, _, _, _, _, _, _, xCI, by first | rfl | decide +kernel⟩, saCI, exCI, tyCI, kcCI⟩
  have xfCI : XfC K CI := ⟨gaCI, ggCI, exCI, hdCI⟩
  have FxC3 := fun_mk (st := s_NoThree_init) lxC3 cxC3 kxC3
  have bxC3 := FxC3.binds (ps := ["self", "three"]) fun _ _ _ _ _ _ us hl => match us, hl with | [_, _], _ => rfl
  have oC3 : OexC K C3 := ⟨⟨_, _, _, _, _, _, _, _, _, _, _, _, _, _, _, xC3, by first | rfl | decide +kernel⟩, saC3, exC3, tyC3, kcC3⟩
  have xfC3 : XfC K C3 := ⟨gaC3, ggC3, exC3, hdC3⟩
  have FxCE := fun_mk (st := s_BadBook_init) lxCE cxCE kxCE
  have bxCE := FxCE.binds (ps := ["self", "index", "what"]) fun _ _ _ _ _ _ us hl => match us, hl with | [_, _, _], _ => rfl
  have oCE : OexC K CE := ⟨⟨_, _, _, _, _, _, _, _, _, _, _, _, _, _, _, xCE, by first | rfl | decide +kernel⟩, saCE, exCE, tyCE, kcCE⟩
  have xfCE : XfC K CE := ⟨gaCE, ggCE, exCE, hdCE⟩
  have FxCM := fun_mk (st := s_BadCompany_init) lxCM cxCM kxCM
  have bxCM := FxCM.binds (ps := ["self", "index", "what"]) fun _ _ _ _ _ _ us hl => match us, hl with | [_, _, _], _ => rfl
  have oCM : OexC K CM := ⟨⟨_, _, _, _, _, _, _, _, _, _, _, _, _, _, _, xCM, by first | rfl | decide +kernel⟩, saCM, exCM, tyCM, kcCM⟩
  have xfCM : XfC K CM := ⟨gaCM, ggCM, exCM, hdCM⟩
  have clCT : Cls K CT := ⟨pgCT, hdCT, poCT, saCT⟩
  have iscCT : C8.InsC K CT := ⟨clCT, haCT, hn0, htk0, hmCT, kit_me⟩
  have TC : TiC K CT := ⟨clCT, n0CT, n1CT⟩
  have TX : TiX K mg CT := { toTiC := TC, isc := iscCT, nt := kit_no icCT tyCT suCT, nl := kit_no icCT tyCT slCT, nf := nfCT, mT := PySem.W.mg_of X G aCT }
  have clCC : Cls K CC := ⟨pgCC, hdCC, poCC, saCC⟩
  have COC : CoC K CC := ⟨clCC, n0CC, n1CC, n2CC, n3CC, n4CC⟩
  have clCK : Cls K CK := ⟨pgCK, hdCK, poCK, saCK⟩
  have iscCK : C8.InsC K CK := ⟨clCK, haCK, hn0, htk0, hmCK, kit_me⟩
  have BC : BoC K CK := ⟨clCK, n0CK, n1CK, n2CK, n3CK⟩
  have BX : BoX K mg CK := { toBoC := BC, isc := iscCK, mB := PySem.W.mg_of X G aCK, ni := kit_no icCK tyCK siCK }
  have XCCO : ExcC K CO := ⟨gaCO, ggCO, exCO, hdCO, haCO, hn0, htk0, hmCO⟩
  have kgCO : PySem.W.kitOne K (.ref CO) (.ref GE) = some true := kit_yes icGE tyGE suGECO
  have XCC3 : ExcC K C3 := ⟨gaC3, ggC3, exC3, hdC3, haC3, hn0, htk0, hmC3⟩
  have kgC3 : PySem.W.kitOne K (.ref C3) (.ref GE) = some true := kit_yes icGE tyGE suGEC3
  have E0CO : Ex0 K mg "OtherTies" CO := ⟨xCO, PySem.W.mg_of X G aCO, kcCO, exCO, tyCO, exm_own exCO icCO tyCO scCO⟩
  have FW := fun_mk (st := s_is_whole) lW cW kW
  have bW := FW.binds (ps := ["thing", "low", "high"]) fun _ _ _ _ _ _ us hl => match us, hl with | [_, _, _], _ => rfl
  have FLB := fun_mk (st := s_is_label) lLB cLB kLB
  have bLB := FLB.binds (ps := ["thing"]) fun _ _ _ _ _ _ us hl => match us, hl with | [_], _ => rfl
  have FQ := fun_mk (st := s_is_sequence) lQ cQ kQ
  have bQ := FQ.binds (ps := ["thing"]) fun _ _ _ _ _ _ us hl => match us, hl with | [_], _ => rfl
  have FKB := fun_mk (st := s_check_backs) lKB cKB kKB
  have bKB := FKB.binds (ps := ["one", "other"]) fun _ _ _ _ _ _ us hl => match us, hl with | [_, _], _ => rfl
  have FTF := fun_mk (st := s_ties_fault) lTF cTF kTF
  have bTF := FTF.binds (ps := ["backs"]) fun _ _ _ _ _ _ us hl => match us, hl with | [_], _ => rfl
  have FtI := fun_mk (st := s_Ties_init) ltI ctI ktI
  have btI := FtI.binds (ps := ["self", "backs"]) fun _ _ _ _ _ _ us hl => match us, hl with | [_, _], _ => rfl
  have FtE := fun_mk (st := s_Ties_eq) ltE ctE ktE
  have btE := FtE.binds (ps := ["self", "other"]) fun _ _ _ _ _ _ us hl => match us, hl with | [_, _], _ => rfl
  have FtH := fun_mk (st := s_Ties_has) ltH ctH ktH
  have btH := FtH.binds (ps := ["self", "thing"]) fun _ _ _ _ _ _ us hl => match us, hl with | [_, _], _ => rfl
  have FtB := fun_mk (st := s_Ties_back) ltB ctB ktB
  have btB := FtB.binds (ps := ["self", "tie"]) fun _ _ _ _ _ _ us hl => match us, hl with | [_, _], _ => rfl
  have FCR := fun_mk (st := s_check_row) lCR cCR kCR
  have bCR := FCR.binds (ps := ["ties", "index", "row", "length"]) fun _ _ _ _ _ _ us hl => match us, hl with | [_, _, _, _], _ => rfl
  have FCC2 := fun_mk (st := s_check_company) lCC2 cCC2 kCC2
  have bCC2 := FCC2.binds (ps := ["ties", "guests", "rows"]) fun _ _ _ _ _ _ us hl => match us, hl with | [_, _, _], _ => rfl
  have FTO := fun_mk (st := s_table_of) lTO cTO kTO
  have bTO := FTO.binds (ps := ["ties", "rows"]) fun _ _ _ _ _ _ us hl => match us, hl with | [_, _], _ => rfl
  have FcI := fund_mk (st := s_Company_init) lcI lTcI ccI kcI
  have bcI := fund_binds (ps := ["self", "ties", "guests", "rows"]) FcI
    fun _ _ _ _ _ _ _ us its hl hi => match us, its, hl, hi with | [_, _, _, _], [_, _], _, _ => ⟨_, rfl, rfl⟩
  have FI3 := fun_mk (st := s_is_three) lI3 cI3 kI3
  have bI3 := FI3.binds (ps := ["ties", "thing"]) fun _ _ _ _ _ _ us hl => match us, hl with | [_, _], _ => rfl
  have FRO := fun_mk (st := s_readings_of) lRO cRO kRO
  have bRO := FRO.binds (ps := ["ties", "three"]) fun _ _ _ _ _ _ us hl => match us, hl with | [_, _], _ => rfl
  have FLR := fun_mk (st := s_least_reading) lLR cLR kLR
  have bLR := FLR.binds (ps := ["ties", "three"]) fun _ _ _ _ _ _ us hl => match us, hl with | [_, _], _ => rfl
  have FCH := fun_mk (st := s_check_threes) lCH cCH kCH
  have bCH := FCH.binds (ps := ["ties", "threes", "word"]) fun _ _ _ _ _ _ us hl => match us, hl with | [_, _, _], _ => rfl
  have FWR := fun_mk (st := s_with_readings) lWR cWR kWR
  have bWR := FWR.binds (ps := ["ties", "threes"]) fun _ _ _ _ _ _ us hl => match us, hl with | [_, _], _ => rfl
  have FBU := fun_mk (st := s_but) lBU cBU kBU
  have bBU := FBU.binds (ps := ["threes", "others"]) fun _ _ _ _ _ _ us hl => match us, hl with | [_, _], _ => rfl
  have FBT := fun_mk (st := s_bar_table) lBT cBT kBT
  have bBT := FBT.binds (ps := ["ties", "barred"]) fun _ _ _ _ _ _ us hl => match us, hl with | [_, _], _ => rfl
  have FbI := fund_mk1 (st := s_Book_init) lbI lTbI cbI kbI
  have bbI := fund_full1 (ps := ["self", "ties", "barred"]) FbI
    fun _ _ _ _ _ _ _ us its hl hi => match us, its, hl, hi with | [_, _, _], [_], _, _ => ⟨_, rfl, rfl⟩
  have bbD := fund_dfl1 (ps := ["self", "ties", "barred"]) FbI rfl
    fun _ _ _ _ _ _ _ us its hl hi => match us, its, hl, hi with | [_, _], [_], _, _ => ⟨_, rfl, rfl⟩
  have ktE : KT K e1bI := ⟨_, #[], nEbI, lEbI, rfl, rfl, by decide, .nil⟩
  have FbE := fun_mk (st := s_Book_eq) lbE cbE kbE
  have bbE := FbE.binds (ps := ["self", "other"]) fun _ _ _ _ _ _ us hl => match us, hl with | [_, _], _ => rfl
  have Fbo := fun_mk (st := s_Book_or) lbo cbo kbo
  have bbo := Fbo.binds (ps := ["self", "other"]) fun _ _ _ _ _ _ us hl => match us, hl with | [_, _], _ => rfl
  have Fba := fun_mk (st := s_Book_and) lba cba kba
  have bba := Fba.binds (ps := ["self", "other"]) fun _ _ _ _ _ _ us hl => match us, hl with | [_, _], _ => rfl
  have FFB := fun_mk (st := s_first_barred) lFB cFB kFB
  have bFB := FFB.binds (ps := ["bars", "table"]) fun _ _ _ _ _ _ us hl => match us, hl with | [_, _], _ => rfl
  have Fbc := fun_mk (st := s_company_fault) lbc cbc kbc
  have bbc := Fbc.binds (ps := ["self", "company"]) fun _ _ _ _ _ _ us hl => match us, hl with | [_, _], _ => rfl
  have Fbl := fun_mk (st := s_lets) lbl cbl kbl
  have bbl := Fbl.binds (ps := ["self", "company"]) fun _ _ _ _ _ _ us hl => match us, hl with | [_, _], _ => rfl
  have Fbw := fun_mk (st := s_with_barred) lbw cbw kbw
  have bbw := Fbw.binds (ps := ["self", "three"]) fun _ _ _ _ _ _ us hl => match us, hl with | [_, _], _ => rfl
  have Fbu := fun_mk (st := s_without_barred) lbu cbu kbu
  have bbu := Fbu.binds (ps := ["self", "three"]) fun _ _ _ _ _ _ us hl => match us, hl with | [_, _], _ => rfl
  have FIW := fun_mk (st := s_is_within) lIW cIW kIW
  have bIW := FIW.binds (ps := ["one", "other"]) fun _ _ _ _ _ _ us hl => match us, hl with | [_, _], _ => rfl
  have FX := fun_mk (st := s_Lmix) lX cX kX
  have bX := FX.binds (ps := ["_law_number", "_law_turn"]) fun _ _ _ _ _ _ us hl => match us, hl with | [_, _], _ => rfl
  have FH := fun_mk (st := s_Lhand) lH cH kH
  have bH := FH.binds (ps := ["_law_script"]) fun _ _ _ _ _ _ us hl => match us, hl with | [_], _ => rfl
  have FD := fun_mk (st := s_Ldraw) lD cD kD
  have bD := FD.binds (ps := ["_law_hand_here", "_law_many"]) fun _ _ _ _ _ _ us hl => match us, hl with | [_, _], _ => rfl
  have FP := fun_mk (st := s_Lpick) lP cP kP
  have bP := FP.binds (ps := ["_law_hand_here", "_law_things"]) fun _ _ _ _ _ _ us hl => match us, hl with | [_, _], _ => rfl
  have FK := fun_mk (st := s_Lbacks) lK cK kK
  have bK := FK.binds (ps := ["_law_hand_here", "_law_many"]) fun _ _ _ _ _ _ us hl => match us, hl with | [_, _], _ => rfl
  have FN := fun_mk (st := s_Lplain) lN cN kN
  have bN := FN.binds (ps := ["_law_answer", "_law_due"]) fun _ _ _ _ _ _ us hl => match us, hl with | [_, _], _ => rfl
  have FRD := fun_mk (st := s_Lreadings) lRD cRD kRD
  have bRD := FRD.binds (ps := ["_law_backs_here", "_law_p", "_law_q", "_law_r"]) fun _ _ _ _ _ _ us hl => match us, hl with | [_, _, _, _], _ => rfl
  have FLC := fun_mk (st := s_Lclasses) lLC cLC kLC
  have bLC := FLC.binds (ps := ["_law_backs_here"]) fun _ _ _ _ _ _ us hl => match us, hl with | [_], _ => rfl
  have FLE := fun_mk (st := s_Llet) lLE cLE kLE
  have bLE := FLE.binds (ps := ["_law_backs_here", "_law_classes_here"]) fun _ _ _ _ _ _ us hl => match us, hl with | [_, _], _ => rfl
  have FBA := fun_mk (st := s_Lbarred) lBA cBA kBA
  have bBA := FBA.binds (ps := ["_law_world"]) fun _ _ _ _ _ _ us hl => match us, hl with | [_], _ => rfl
  have FAW := fun_mk (st := s_Lany_world) lAW cAW kAW
  have bAW := FAW.binds (ps := ["_law_hand_here", "_law_many"]) fun _ _ _ _ _ _ us hl => match us, hl with | [_, _], _ => rfl
  have FBH := fun_mk (st := s_Lbars_handed) lBH cBH kBH
  have bBH := FBH.binds (ps := ["_law_hand_here", "_law_world"]) fun _ _ _ _ _ _ us hl => match us, hl with | [_, _], _ => rfl
  have n_max := PySem.W.mg_none_of X G z_max
  have FB := fun_mk (st := s_Llabels) lB cB kB
  have bB := FB.binds (ps := ["_law_hand_here", "_law_many"]) fun _ _ _ _ _ _ us hl => match us, hl with | [_, _], _ => rfl
  have FFI := fun_mk (st := s_Lfits) lFI cFI kFI
  have bFI := FFI.binds (ps := ["_law_world", "_law_table"]) fun _ _ _ _ _ _ us hl => match us, hl with | [_, _], _ => rfl
  have FLW := fun_mk (st := s_Lrows) lLW cLW kLW
  have bLW := FLW.binds (ps := ["_law_table"]) fun _ _ _ _ _ _ us hl => match us, hl with | [_], _ => rfl
  have FLO := fun_mk (st := s_Lcompany) lLO cLO kLO
  have bLO := FLO.binds (ps := ["_law_backs_here", "_law_labels_here", "_law_table"]) fun _ _ _ _ _ _ us hl => match us, hl with | [_, _, _], _ => rfl
  have FLK := fun_mk (st := s_Lbook) lLK cLK kLK
  have bLK := FLK.binds (ps := ["_law_hand_here", "_law_world"]) fun _ _ _ _ _ _ us hl => match us, hl with | [_, _], _ => rfl
  have FS := fun_mk (st := s_Lshape) lS cS kS
  have bS := FS.binds (ps := ["_law_hand_here", "_law_row"]) fun _ _ _ _ _ _ us hl => match us, hl with | [_, _], _ => rfl
  have FFL := fun_mk (st := s_Lflat) lFL cFL kFL
  have bFL := FFL.binds (ps := ["_law_backs_here", "_law_number", "_law_size"]) fun _ _ _ _ _ _ us hl => match us, hl with | [_, _, _], _ => rfl
  have FDT := fun_mk (st := s_Ldrawn_table) lDT cDT kDT
  have bDT := FDT.binds (ps := ["_law_hand_here", "_law_backs_here", "_law_size"]) fun _ _ _ _ _ _ us hl => match us, hl with | [_, _, _], _ => rfl
  have FSB := fun_mk (st := s_Lsame_barred) lSB cSB kSB
  have bSB := FSB.binds (ps := ["_law_book_here", "_law_world"]) fun _ _ _ _ _ _ us hl => match us, hl with | [_, _], _ => rfl
  have FOB := fun_mk (st := s_Lother_backs) lOB cOB kOB
  have bOB := FOB.binds (ps := ["_law_hand_here", "_law_backs_here"]) fun _ _ _ _ _ _ us hl => match us, hl with | [_, _], _ => rfl
  have FBO := fun_mk (st := s_Lboth) lBO cBO kBO
  have bBO := FBO.binds (ps := ["_law_one", "_law_other", "_law_way"]) fun _ _ _ _ _ _ us hl => match us, hl with | [_, _, _], _ => rfl
  have FOT := fun_mk (st := s_Lother_ties) lOT cOT kOT
  have bOT := FOT.binds (ps := ["_law_one", "_law_strange", "_law_way"]) fun _ _ _ _ _ _ us hl => match us, hl with | [_, _, _], _ => rfl
  have FNT := fun_mk (st := s_Lno_three) lNT cNT kNT
  have bNT := FNT.binds (ps := ["_law_book_here", "_law_thing", "_law_way"]) fun _ _ _ _ _ _ us hl => match us, hl with | [_, _, _], _ => rfl
  have FTG := fun_mk (st := s_Lthrees_of_guests) lTG cTG kTG
  have bTG := FTG.binds (ps := ["_law_one", "_law_other", "_law_either", "_law_worlds", "_law_within"]) fun _ _ _ _ _ _ us hl => match us, hl with | [_, _, _, _, _], _ => rfl
  have FV := fun_mk (st := s_law) lV cV kV
  have bV := FV.binds (ps := ["_law_script"]) fun _ _ _ _ _ _ us hl => match us, hl with | [_], _ => rfl
  refine ⟨PySem.W.fnOf "law" "law" (defArgs s_law) (defBody s_law) (defScope s_law) .none kv_V dc_V pm_V an_V cd_V ct_V, fun s v => .of_eq rfl, fun base KB GB => ?_⟩
  have ECB : Ex l.prog w K mg base "BadTies" "what" CB f_xCB _ ["self", "what"] := ⟨oCB, axCB, ixCB, ok_BadTies_init FxCB oCB no0CB, bxCB, PySem.W.mg_of X G aCB, xfCB, no0CB, exm_own exCB icCB tyCB scCB⟩
  have ECI : Ex l.prog w K mg base "NoTie" "tie" CI f_xCI _ ["self", "tie"] := ⟨oCI, axCI, ixCI, ok_NoTie_init FxCI oCI no0CI, bxCI, PySem.W.mg_of X G aCI, xfCI, no0CI, exm_own exCI icCI tyCI scCI⟩
  have EC3 : Ex l.prog w K mg base "NoThree" "three" C3 f_xC3 _ ["self", "three"] := ⟨oC3, axC3, ixC3, ok_NoThree_init FxC3 oC3 no0C3, bxC3, PySem.W.mg_of X G aC3, xfC3, no0C3, exm_own exC3 icC3 tyC3 scC3⟩
  have ECE : Ex2 l.prog w K mg base "BadBook" "index" "what" CE f_xCE _ ["self", "index", "what"] := ⟨oCE, axCE, ixCE, ok_BadBook_init FxCE oCE no0CE no1CE, bxCE, PySem.W.mg_of X G aCE, xfCE, no0CE, no1CE, exm_own exCE icCE tyCE scCE⟩
  have ECM : Ex2 l.prog w K mg base "BadCompany" "index" "what" CM f_xCM _ ["self", "index", "what"] := ⟨oCM, axCM, ixCM, ok_BadCompany_init FxCM oCM no0CM no1CM, bxCM, PySem.W.mg_of X G aCM, xfCM, no0CM, no1CM, exm_own exCM icCM tyCM scCM⟩
  have GW : Cal l.prog w K mg base CX0 1 "is_whole" f_W _ ["thing", "low", "high"] spWhole := ⟨ok_is_whole FW n_isinstance n_int n_bool, PySem.W.mg_of X G aW, kW, bW⟩
  have GLB : Cal l.prog w K mg base CX0 2 "is_label" f_LB _ ["thing"] spLabel := ⟨ok_is_label FLB GW ⟨_, mL⟩, PySem.W.mg_of X G aLB, kLB, bLB⟩
  have GQ : Cal l.prog w K mg base CX0 1 "is_sequence" f_Q _ ["thing"] spSeq := ⟨ok_is_sequence FQ n_isinstance n_list n_tuple, PySem.W.mg_of X G aQ, kQ, bQ⟩
  have GQK : Cal l.prog w K mg base CX0 1 "is_sequence" f_Q _ ["thing"] (spSeqK K) := ⟨ok_is_sequenceK FQ n_isinstance n_list n_tuple, PySem.W.mg_of X G aQ, kQ, bQ⟩
  have GKB : Cal l.prog w K mg base (L2.CX l.prog w) 1 "check_backs" f_KB _ ["one", "other"] (spCB CT CO) := ⟨ok_check_backs FKB TC E0CO, PySem.W.mg_of X G aKB, kKB, bKB⟩
  have GTF : Cal l.prog w K mg base CX0 2 "ties_fault" f_TF _ ["backs"] spFault := ⟨ok_ties_fault FTF n_len n_range n_all ⟨_, mM⟩ GQ GW, PySem.W.mg_of X G aTF, kTF, bTF⟩
  have MIT : Mk K CT f_tI := ⟨mkCT, atI, itI, kcCT⟩
  have FIT := ok_Ties_init (P := l.prog) (w := w) (base := base) FtI TC n_len n_tuple GTF ECB
  have FET := ok_Ties_eq (P := l.prog) (w := w) (base := base) FtE TX n_isinstance
  have MtH : Mt l.prog w K mg base CX0 2 CT "has" f_tH _ ["self", "thing"] (spHas CT) := ⟨⟨atH, itH, ktH⟩, ok_Ties_has FtH TC GW, btH⟩
  have MtB : Mt l.prog w K mg base (L2.CX l.prog w) 3 CT "back" f_tB _ ["self", "tie"] (spBack CT CI) := ⟨⟨atB, itB, ktB⟩, ok_Ties_back FtB TC MtH ECI, btB⟩
  have GCR : Cal l.prog w K mg base (L2.CX l.prog w) 3 "_check_row" f_CR _ ["ties", "index", "row", "length"] (spRow CT CM) := ⟨ok_check_row FCR TC n_len GQ MtH ECM, PySem.W.mg_of X G aCR, kCR, bCR⟩
  have GCC2 : Cal l.prog w K mg base (L2.CX l.prog w) 4 "_check_company" f_CC2 _ ["ties", "guests", "rows"] (spCC CT CM) := ⟨ok_check_company FCC2 n_len n_enumerate ⟨_, mG⟩ GQ GLB GCR ECM, PySem.W.mg_of X G aCC2, kCC2, bCC2⟩
  have GTO : Cal l.prog w K mg base CX0 1 "_table_of" f_TO _ ["ties", "rows"] (spTable CT) := ⟨ok_table_of FTO TC n_len n_tuple n_enumerate, PySem.W.mg_of X G aTO, kTO, bTO⟩
  have MIC : Mk K CC f_cI := ⟨mkCC, acI, icI, kcCC⟩
  have FIC := ok_Company_init (P := l.prog) (w := w) (base := base) FcI COC n_tuple n_enumerate GCC2 GTO
  have GI3 : Cal l.prog w K mg base CX0 3 "is_three" f_I3 _ ["ties", "thing"] (spThree CT) := ⟨ok_is_three FI3 TC n_len n_all GQ MtH, PySem.W.mg_of X G aI3, kI3, bI3⟩
  have GRO : Cal l.prog w K mg base (L2.CX l.prog w) 4 "readings_of" f_RO _ ["ties", "three"] (spReadings CT C3) := ⟨ok_readings_of FRO TC n_tuple n_sorted n_set GI3 MtB EC3, PySem.W.mg_of X G aRO, kRO, bRO⟩
  have GLR : Cal l.prog w K mg base (L2.CX l.prog w) 5 "least_reading" f_LR _ ["ties", "three"] (spLeast CT C3) := ⟨ok_least_reading FLR GRO, PySem.W.mg_of X G aLR, kLR, bLR⟩
  have GCH : Cal l.prog w K mg base (L2.CX l.prog w) 4 "_check_threes" f_CH _ ["ties", "threes", "word"] (spChk CT CE) := ⟨ok_check_threes FCH TX n_isinstance n_enumerate GQ GI3 ECE, PySem.W.mg_of X G aCH, kCH, bCH⟩
  have GCHK : Cal l.prog w K mg base (L2.CX l.prog w) 4 "_check_threes" f_CH _ ["ties", "threes", "word"] (spChkK K CT) := ⟨ok_check_threesK FCH TX n_isinstance n_enumerate GQK GI3 ECE, PySem.W.mg_of X G aCH, kCH, bCH⟩
  have GWR : Cal l.prog w K mg base CX0 5 "_with_readings" f_WR _ ["ties", "threes"] (spWith CT) := ⟨ok_with_readings FWR n_tuple n_sorted GRO, PySem.W.mg_of X G aWR, kWR, bWR⟩
  have GWRK : Cal l.prog w K mg base CX0 5 "_with_readings" f_WR _ ["ties", "threes"] (spWithK K CT) := ⟨ok_with_readingsK FWR n_tuple n_sorted GRO, PySem.W.mg_of X G aWR, kWR, bWR⟩
  have GBU : Cal l.prog w K mg base CX0 1 "_but" f_BU _ ["threes", "others"] spBut := ⟨ok_but FBU, PySem.W.mg_of X G aBU, kBU, bBU⟩
  have GBT : Cal l.prog w K mg base CX0 1 "_bar_table" f_BT _ ["ties", "barred"] (spTab CT) := ⟨ok_bar_table FBT TC n_tuple n_range, PySem.W.mg_of X G aBT, kBT, bBT⟩
  have MIB : Mk K CK f_bI := ⟨mkCK, abI, ibI, kcCK⟩
  have FIB := ok_Book_init (P := l.prog) (w := w) (base := base) FbI BC n_tuple GCH GWR GLR GBT GCHK GWRK
  have FEB := ok_Book_eq (P := l.prog) (w := w) (base := base) FbE TX BX n_isinstance FET atE itE btE
  have FOR := ok_Book_or (P := l.prog) (w := w) (base := base) Fbo BC (PySem.W.mg_of X G aCK) GKB MIB FIB bbI
  have FAN := ok_Book_and (P := l.prog) (w := w) (base := base) Fba BC (PySem.W.mg_of X G aCK) GKB MIB FIB bbI
  have GFB : Cal l.prog w K mg base CX0 1 "_first_barred" f_FB _ ["bars", "table"] spFB := ⟨ok_first_barred FFB n_len n_range, PySem.W.mg_of X G aFB, kFB, bFB⟩
  have Mbc : Mt l.prog w K mg base (L2.CX l.prog w) 2 CK "company_fault" f_bc _ ["self", "company"] (spCFa CT CC CK CO) := ⟨⟨abc, ibc, kbc⟩, ok_company_fault Fbc TC BC COC n_tuple GKB GFB, bbc⟩
  have Mbl : Mt l.prog w K mg base (L2.CX l.prog w) 3 CK "lets" f_bl _ ["self", "company"] (spLets CT CC CK CO) := ⟨⟨abl, ibl, kbl⟩, ok_lets Fbl BC Mbc, bbl⟩
  have Mbw : Mt l.prog w K mg base (L2.CX l.prog w) 8 CK "with_barred" f_bw _ ["self", "three"] (spOne CT CK C3 addL) := ⟨⟨abw, ibw, kbw⟩, ok_with_barred Fbw BC (PySem.W.mg_of X G aCK) GI3 EC3 MIB FIB bbI, bbw⟩
  have Mbu : Mt l.prog w K mg base (L2.CX l.prog w) 8 CK "without_barred" f_bu _ ["self", "three"] (spOne CT CK C3 butL) := ⟨⟨abu, ibu, kbu⟩, ok_without_barred Fbu BC (PySem.W.mg_of X G aCK) GBU GRO MIB FIB bbI, bbu⟩
  have GIW : Cal l.prog w K mg base (L2.CX l.prog w) 2 "is_within" f_IW _ ["one", "other"] (spWithin CT CK CO) := ⟨ok_is_within FIW BC n_all GKB, PySem.W.mg_of X G aIW, kIW, bIW⟩
  have GX : Cal l.prog w K mg base CX0 1 "_law_mix" f_X _ ["_law_number", "_law_turn"] spMix := ⟨ok_Lmix FX n_int, PySem.W.mg_of X G aX, kX, bX⟩
  have GH : Cal l.prog w K mg base CX0 1 "_law_hand" f_H _ ["_law_script"] (spHand K) := ⟨ok_Lhand FH n_int n_abs n_enumerate, PySem.W.mg_of X G aH, kH, bH⟩
  have GD : Cal l.prog w K mg base CX0 2 "_law_draw" f_D _ ["_law_hand_here", "_law_many"] spDraw := ⟨ok_Ldraw FD n_int n_len GX, PySem.W.mg_of X G aD, kD, bD⟩
  have GP : Cal l.prog w K mg base CX0 3 "_law_pick" f_P _ ["_law_hand_here", "_law_things"] spPick := ⟨ok_Lpick FP n_len GD, PySem.W.mg_of X G aP, kP, bP⟩
  have GK : Cal l.prog w K mg base CX0 3 "_law_backs" f_K _ ["_law_hand_here", "_law_many"] spBacks := ⟨ok_Lbacks FK n_list n_len n_range GD, PySem.W.mg_of X G aK, kK, bK⟩
  have GNo : Cal l.prog w K mg base CX0 0 "_law_plain" f_N _ ["_law_answer", "_law_due"] spNo := ⟨fn_no, PySem.W.mg_of X G aN, kN, bN⟩
  have GN0 : Cal l.prog w K mg base CX0 1 "_law_plain" f_N _ ["_law_answer", "_law_due"] spP0 := ⟨ok_Lplain0 FN n_isinstance n_tuple n_len n_zip n_bool n_int n_str GNo, PySem.W.mg_of X G aN, kN, bN⟩
  have GN1 : Cal l.prog w K mg base CX0 2 "_law_plain" f_N _ ["_law_answer", "_law_due"] spP1 := ⟨ok_Lplain1 FN n_isinstance n_tuple n_len n_zip n_bool n_int n_str GN0, PySem.W.mg_of X G aN, kN, bN⟩
  have GN2 : Cal l.prog w K mg base CX0 3 "_law_plain" f_N _ ["_law_answer", "_law_due"] spP2 := ⟨ok_Lplain2 FN n_isinstance n_tuple n_len n_zip n_bool n_int n_str GN1, PySem.W.mg_of X G aN, kN, bN⟩
  have GRD : Cal l.prog w K mg base CX0 1 "_law_readings" f_RD _ ["_law_backs_here", "_law_p", "_law_q", "_law_r"] spLR := ⟨ok_Lreadings FRD, PySem.W.mg_of X G aRD, kRD, bRD⟩
  have GLC : Cal l.prog w K mg base CX0 2 "_law_classes" f_LC _ ["_law_backs_here"] spLC := ⟨ok_Lclasses FLC n_len n_range n_min GRD, PySem.W.mg_of X G aLC, kLC, bLC⟩
  have GLE : Cal l.prog w K mg base CX0 2 "_law_let" f_LE _ ["_law_backs_here", "_law_classes_here"] spLL := ⟨ok_Llet FLE n_len n_range GRD, PySem.W.mg_of X G aLE, kLE, bLE⟩
  have GBA : Cal l.prog w K mg base CX0 1 "_law_barred" f_BA _ ["_law_world"] spLB := ⟨ok_Lbarred FBA n_len n_range, PySem.W.mg_of X G aBA, kBA, bBA⟩
  have GAW : Cal l.prog w K mg base CX0 4 "_law_any_world" f_AW _ ["_law_hand_here", "_law_many"] spAW := ⟨ok_Lany_world FAW GK GD GLC GLE, PySem.W.mg_of X G aAW, kAW, bAW⟩
  have GBH : Cal l.prog w K mg base CX0 4 "_law_bars_handed" f_BH _ ["_law_hand_here", "_law_world"] spBH := ⟨ok_Lbars_handed FBH n_len GD GLC GP GRD, PySem.W.mg_of X G aBH, kBH, bBH⟩
  have GB : Cal l.prog w K mg base CX0 3 "_law_labels" f_B _ ["_law_hand_here", "_law_many"] spLabels := ⟨ok_Llabels FB n_range n_max GD, PySem.W.mg_of X G aB, kB, bB⟩
  have GFI : Cal l.prog w K mg base CX0 1 "_law_fits" f_FI _ ["_law_world", "_law_table"] spFits := ⟨ok_Lfits FFI n_len n_range, PySem.W.mg_of X G aFI, kFI, bFI⟩
  have GLW : Cal l.prog w K mg base CX0 1 "_law_rows" f_LW _ ["_law_table"] spLRows := ⟨ok_Lrows FLW n_len n_range n_list, PySem.W.mg_of X G aLW, kLW, bLW⟩
  have GLO : Cal l.prog w K mg base CX0 7 "_law_company" f_LO _ ["_law_backs_here", "_law_labels_here", "_law_table"] (spLComp CT CC) := ⟨ok_Lcompany FLO GLW (PySem.W.mg_of X G aCT) (PySem.W.mg_of X G aCC) MIT FIT btI MIC FIC bcI, PySem.W.mg_of X G aLO, kLO, bLO⟩
  have GLK : Cal l.prog w K mg base CX0 8 "_law_book" f_LK _ ["_law_hand_here", "_law_world"] (spLBook CT CK) := ⟨ok_Lbook FLK (PySem.W.mg_of X G aCT) MIT FIT btI (PySem.W.mg_of X G aCK) MIB FIB bbI GBH, PySem.W.mg_of X G aLK, kLK, bLK⟩
  have GS : Cal l.prog w K mg base CX0 3 "_law_shape" f_S _ ["_law_hand_here", "_law_row"] spShape2 := ⟨ok_Lshape2 FS n_list n_tuple GD, PySem.W.mg_of X G aS, kS, bS⟩
  have GFL : Cal l.prog w K mg base CX0 1 "_law_flat" f_FL _ ["_law_backs_here", "_law_number", "_law_size"] spFlat := ⟨ok_Lflat FFL n_len n_range n_reversed, PySem.W.mg_of X G aFL, kFL, bFL⟩
  have GDT : Cal l.prog w K mg base CX0 3 "_law_drawn_table" f_DT _ ["_law_hand_here", "_law_backs_here", "_law_size"] spDT := ⟨ok_Ldrawn_table FDT n_len n_range GD, PySem.W.mg_of X G aDT, kDT, bDT⟩
  have GSB : Cal l.prog w K mg base CX0 4 "_law_same_barred" f_SB _ ["_law_book_here", "_law_world"] (spLS CT CK) := ⟨ok_Lsame_barred FSB TC BX n_isinstance n_tuple GBA GN2 GN1, PySem.W.mg_of X G aSB, kSB, bSB⟩
  have GOB : Cal l.prog w K mg base CX0 4 "_law_other_backs" f_OB _ ["_law_hand_here", "_law_backs_here"] spOB := ⟨ok_Lother_backs FOB n_list GP, PySem.W.mg_of X G aOB, kOB, bOB⟩
  have GBO : Cal l.prog w K mg base CX0 3 "_law_both" f_BO _ ["_law_one", "_law_other", "_law_way"] spBoth := ⟨ok_Lboth FBO GLC GLE, PySem.W.mg_of X G aBO, kBO, bBO⟩
  have GOT : Cal l.prog w K mg base CX0 9 "_law_other_ties" f_OT _ ["_law_one", "_law_strange", "_law_way"] (spOT CT CK) := ⟨ok_Lother_ties FOT n_isinstance E0CO XCCO (PySem.W.mg_of X G aGE) kgCO FOR abo ibo bbo FAN aba iba bba sfCK GIW, PySem.W.mg_of X G aOT, kOT, bOT⟩
  have GNT : Cal l.prog w K mg base CX0 9 "_law_no_three" f_NT _ ["_law_book_here", "_law_thing", "_law_way"] (spNoTh K CT CK) := ⟨ok_Lno_three FNT BC n_isinstance EC3 XCC3 (PySem.W.mg_of X G aGE) kgC3 Mbw Mbu, PySem.W.mg_of X G aNT, kNT, bNT⟩
  have GTG : Cal l.prog w K mg base CX0 8 "_law_threes_of_guests" f_TG _ ["_law_one", "_law_other", "_law_either", "_law_worlds", "_law_within"] (spTG CT CK) := ⟨ok_Lthrees_of_guests FTG BC n_len n_range GFL GLO GFI GN0 Mbl, PySem.W.mg_of X G aTG, kTG, bTG⟩
  exact ok_law FV n_len n_range n_tuple n_min BC GH GP GAW GD GLC GLE GBO GLK FOR abo ibo bbo FAN aba iba bba sfCK GSB GBA GIW GN0 GTG FEB abE ibE bbE nfCK GDT GLO GB Mbl GFI GOB (PySem.W.mg_of X G aCT) MIT FIT btI (PySem.W.mg_of X G aCK) MIB FIB bbD ktE GOT GRD Mbw Mbu GS GNT
theorem walk {l : PySem.W.OpenLaw} {q : Program} {loose : List Str} {XP : (Str → Option Value) → Heap → Prop} {YP : World → Heap → Prop} {d : DefRec} {K : Params → PySem.W.Frag} (hn : l.most = some 63) (hdf : d.params.defaults = [])
    (hY : ∀ (w : World) (h : Heap), YP w h → (K w.params).In h)
    (F : ∀ (w : World) (mg : Str → Option Value) (fa : Addr) (h : Heap), (K w.params).In h → h.Ns mainGlobals mg → mg d.name = some (.ref fa) →
      ∃ fd : FuncData, (∀ (s : Shared) (u : Value), BindsTo s fd ⟨[u], []⟩ [("_law_script", u)]) ∧ ∀ base : Heap, (K w.params).In base → base.Ns mainGlobals mg → FnOk l.prog w (K w.params) mg base CX0 11 fa fd ["_law_script"] (spLaw (K w.params))) :
    PySem.W.WalkO q loose XP YP l.row.toRowW d [] (fun f vs => PySem.call f vs) :=
  L2.walk_of (n := 63) (k := 11) (x := "_law_script") (CX := fun _ => CX0) (sp := fun w => spLaw (K w.params)) hn (by decide) hdf ⟨rfl, by decide, by decide⟩ hY F (fun _ _ a ns hl _ hS => ⟨a, ns, rfl, hS, hl, fun _ => rfl⟩) fun _ _ _ _ _ z => z
end J

set_option Elab.async false
open PySem PySem.W PyProof.Rows in
set_option maxRecDepth 100000 in
set_option maxHeartbeats 0 in
theorem PySem.Challenge.cw_joinedguests_k14_whole_books_put_togethe_holds : PySem.Challenge.rw_joinedguests_k14_whole_books_put_togethe.Holds := by
  w_on; o_law; k_head; (case hw => w_witness2)
  k_fill
  refine J.walk (l := PySem.Challenge.rw_joinedguests_k14_whole_books_put_togethe) rfl rfl (fun w h Y => PySem.W.kIn_of Y) ?F
  case F =>
    intro w mg fa h KX G hmg
    refine' J.all_mk KX G hmg ?z_len ?z_isinstance ?z_int ?z_bool ?z_list ?z_tuple ?z_range ?z_abs ?z_enumerate ?z_all ?z_zip ?z_str ?z_sorted ?z_set ?z_min ?z_reversed ?gM ?gL ?gG ?aCB ?axCB ?ixCB ?lxCB ?cxCB ?kxCB ?xCB ?saCB ?gaCB ?ggCB ?no0CB ?kcCB ?exCB ?tyCB ?hdCB ?icCB ?scCB ?aCI ?axCI ?ixCI ?lxCI ?cxCI ?kxCI ?xCI ?saCI ?gaCI ?ggCI ?no0CI ?kcCI ?exCI ?tyCI ?hdCI ?icCI ?scCI ?aC3 ?axC3 ?ixC3 ?lxC3 ?cxC3 ?kxC3 ?xC3 ?saC3 ?gaC3 ?ggC3 ?no0C3 ?kcC3 ?exC3 ?tyC3 ?hdC3 ?icC3 ?scC3 ?aCE ?axCE ?ixCE ?lxCE ?cxCE ?kxCE ?xCE ?saCE ?gaCE ?ggCE ?no0CE ?no1CE ?kcCE ?exCE ?tyCE ?hdCE ?icCE ?scCE ?aCM ?axCM ?ixCM ?lxCM ?cxCM ?kxCM ?xCM ?saCM ?gaCM ?ggCM ?no0CM ?no1CM ?kcCM ?exCM ?tyCM ?hdCM ?icCM ?scCM ?aCT ?pgCT ?hdCT ?poCT ?saCT ?mkCT ?kcCT ?n0CT ?n1CT ?haCT ?hn0 ?htk0 ?hmCT ?icCT ?tyCT ?suCT ?nfCT ?slCT ?aCC ?pgCC ?hdCC ?poCC ?saCC ?mkCC ?kcCC ?n0CC ?n1CC ?n2CC ?n3CC ?n4CC ?aCK ?pgCK ?hdCK ?poCK ?saCK ?mkCK ?kcCK ?n0CK ?n1CK ?n2CK ?n3CK ?haCK ?hmCK ?icCK ?tyCK ?suCK ?nfCK ?siCK ?sfCK ?aGE ?icGE ?tyGE ?aCO ?xCO ?kcCO ?exCO ?tyCO ?hdCO ?icCO ?scCO ?gaCO ?ggCO ?suGECO ?haCO ?hmCO ?suGEC3 ?haC3 ?hmC3 ?aW ?lW ?cW ?kW ?aLB ?lLB ?cLB ?kLB ?aQ ?lQ ?cQ ?kQ ?aKB ?lKB ?cKB ?kKB ?aTF ?lTF ?cTF ?kTF ?atI ?itI ?ltI ?ctI ?ktI ?atE ?itE ?ltE ?ctE ?ktE ?atH ?itH ?ltH ?ctH ?ktH ?atB ?itB ?ltB ?ctB ?ktB ?aCR ?lCR ?cCR ?kCR ?aCC2 ?lCC2 ?cCC2 ?kCC2 ?aTO ?lTO ?cTO ?kTO ?acI ?icI ?lcI ?lTcI ?ccI ?kcI ?aI3 ?lI3 ?cI3 ?kI3 ?aRO ?lRO ?cRO ?kRO ?aLR ?lLR ?cLR ?kLR ?aCH ?lCH ?cCH ?kCH ?aWR ?lWR ?cWR ?kWR ?aBU ?lBU ?cBU ?kBU ?aBT ?lBT ?cBT ?kBT ?abI ?ibI ?lbI ?lTbI ?lEbI ?cbI ?kbI ?abE ?ibE ?lbE ?cbE ?kbE ?abo ?ibo ?lbo ?cbo ?kbo ?aba ?iba ?lba ?cba ?kba ?aFB ?lFB ?cFB ?kFB ?abc ?ibc ?lbc ?cbc ?kbc ?abl ?ibl ?lbl ?cbl ?kbl ?abw ?ibw ?lbw ?cbw ?kbw ?abu ?ibu ?lbu ?cbu ?kbu ?aIW ?lIW ?cIW ?kIW ?aX ?lX ?cX ?kX ?aH ?lH ?cH ?kH ?aD ?lD ?cD ?kD ?aP ?lP ?cP ?kP ?aK ?lK ?cK ?kK ?aN ?lN ?cN ?kN ?aRD ?lRD ?cRD ?kRD ?aLC ?lLC ?cLC ?kLC ?aLE ?lLE ?cLE ?kLE ?aBA ?lBA ?cBA ?kBA ?aAW ?lAW ?cAW ?kAW ?aBH ?lBH ?cBH ?kBH ?z_max ?aB ?lB ?cB ?kB ?aFI ?lFI ?cFI ?kFI ?aLW ?lLW ?cLW ?kLW ?aLO ?lLO ?cLO ?kLO ?aLK ?lLK ?cLK ?kLK ?aS ?lS ?cS ?kS ?aFL ?lFL ?cFL ?kFL ?aDT ?lDT ?cDT ?kDT ?aSB ?lSB ?cSB ?kSB ?aOB ?lOB ?cOB ?kOB ?aBO ?lBO ?cBO ?kBO ?aOT ?lOT ?cOT ?kOT ?aNT ?lNT ?cNT ?kNT ?aTG ?lTG ?cTG ?kTG ?aV ?lV ?cV ?kV
    (case z_len => k_is)
    (case z_isinstance => k_is)
    (case z_int => k_is)
    (case z_bool => k_is)
    (case z_list => k_is)
    (case z_tuple => k_is)
    (case z_range => k_is)
    (case z_abs => k_is)
    (case z_enumerate => k_is)
    (case z_all => k_is)
    (case z_zip => k_is)
    (case z_str => k_is)
    (case z_sorted => k_is)
    (case z_set => k_is)
    (case z_min => k_is)
    (case z_reversed => k_is)
    (case gM => k_is)
    (case gL => k_is)
    (case gG => k_is)
    (case aCB => k_is)
    (case axCB => k_is)
    (case ixCB => k_is)
    (case lxCB => k_is)
    (case cxCB => k_is)
    (case kxCB => k_is)
    (case xCB => k_is)
    (case saCB => k_is)
    (case gaCB => k_is)
    (case ggCB => k_is)
    (case no0CB => k_is)
    (case kcCB => k_is)
    (case exCB => k_is)
    (case tyCB => k_is)
    (case hdCB => k_is)
    (case icCB => k_is)
    (case scCB => first | rfl | k_is)
    (case aCI => k_is)
    (case axCI => k_is)
    (case ixCI => k_is)
    (case lxCI => k_is)
    (case cxCI => k_is)
    (case kxCI => k_is)
    (case xCI => k_is)
    (case saCI => k_is)
    (case gaCI => k_is)
    (case ggCI => k_is)
    (case no0CI => k_is)
    (case kcCI => k_is)
    (case exCI => k_is)
    (case tyCI => k_is)
    (case hdCI => k_is)
    (case icCI => k_is)
    (case scCI => first | rfl | k_is)
    (case aC3 => k_is)
    (case axC3 => k_is)
    (case ixC3 => k_is)
    (case lxC3 => k_is)
    (case cxC3 => k_is)
    (case kxC3 => k_is)
    (case xC3 => k_is)
    (case saC3 => k_is)
    (case gaC3 => k_is)
    (case ggC3 => k_is)
    (case no0C3 => k_is)
    (case kcC3 => k_is)
    (case exC3 => k_is)
    (case tyC3 => k_is)
    (case hdC3 => k_is)
    (case icC3 => k_is)
    (case scC3 => first | rfl | k_is)
    (case aCE => k_is)
    (case axCE => k_is)
    (case ixCE => k_is)
    (case lxCE => k_is)
    (case cxCE => k_is)
    (case kxCE => k_is)
    (case xCE => k_is)
    (case saCE => k_is)
    (case gaCE => k_is)
    (case ggCE => k_is)
    (case no0CE => k_is)
    (case no1CE => k_is)
    (case kcCE => k_is)
    (case exCE => k_is)
    (case tyCE => k_is)
    (case hdCE => k_is)
    (case icCE => k_is)
    (case scCE => first | rfl | k_is)
    (case aCM => k_is)
    (case axCM => k_is)
    (case ixCM => k_is)
    (case lxCM => k_is)
    (case cxCM => k_is)
    (case kxCM => k_is)
    (case xCM => k_is)
    (case saCM => k_is)
    (case gaCM => k_is)
    (case ggCM => k_is)
    (case no0CM => k_is)
    (case no1CM => k_is)
    (case kcCM => k_is)
    (case exCM => k_is)
    (case tyCM => k_is)
    (case hdCM => k_is)
    (case icCM => k_is)
    (case scCM => first | rfl | k_is)
    (case aCT => k_is)
    (case pgCT => k_is)
    (case hdCT => k_is)
    (case poCT => k_is)
    (case saCT => k_is)
    (case mkCT => k_is)
    (case kcCT => k_is)
    (case n0CT => k_is)
    (case n1CT => k_is)
    (case haCT => k_is)
    (case hn0 => k_is)
    (case htk0 => k_is)
    (case hmCT => k_is)
    (case icCT => k_is)
    (case tyCT => k_is)
    (case suCT => k_is)
    (case nfCT => k_is)
    (case slCT => k_is)
    (case aCC => k_is)
    (case pgCC => k_is)
    (case hdCC => k_is)
    (case poCC => k_is)
    (case saCC => k_is)
    (case mkCC => k_is)
    (case kcCC => k_is)
    (case n0CC => k_is)
    (case n1CC => k_is)
    (case n2CC => k_is)
    (case n3CC => k_is)
    (case n4CC => k_is)
    (case aCK => k_is)
    (case pgCK => k_is)
    (case hdCK => k_is)
    (case poCK => k_is)
    (case saCK => k_is)
    (case mkCK => k_is)
    (case kcCK => k_is)
    (case n0CK => k_is)
    (case n1CK => k_is)
    (case n2CK => k_is)
    (case n3CK => k_is)
    (case haCK => k_is)
    (case hmCK => k_is)
    (case icCK => k_is)
    (case tyCK => k_is)
    (case suCK => k_is)
    (case nfCK => k_is)
    (case siCK => k_is)
    (case sfCK => k_is)
    (case aGE => k_is)
    (case icGE => k_is)
    (case tyGE => k_is)
    (case aCO => k_is)
    (case xCO => first | k_exc | k_is)
    (case kcCO => k_is)
    (case exCO => k_is)
    (case tyCO => k_is)
    (case hdCO => k_is)
    (case icCO => k_is)
    (case scCO => first | rfl | k_is)
    (case gaCO => k_is)
    (case ggCO => k_is)
    (case suGECO => k_is)
    (case haCO => k_is)
    (case hmCO => k_is)
    (case suGEC3 => k_is)
    (case haC3 => k_is)
    (case hmC3 => k_is)
    (case aW => k_is)
    (case lW => k_is)
    (case cW => k_is)
    (case kW => k_is)
    (case aLB => k_is)
    (case lLB => k_is)
    (case cLB => k_is)
    (case kLB => k_is)
    (case aQ => k_is)
    (case lQ => k_is)
    (case cQ => k_is)
    (case kQ => k_is)
    (case aKB => k_is)
    (case lKB => k_is)
    (case cKB => k_is)
    (case kKB => k_is)
    (case aTF => k_is)
    (case lTF => k_is)
    (case cTF => k_is)
    (case kTF => k_is)
    (case atI => k_is)
    (case itI => k_is)
    (case ltI => k_is)
    (case ctI => k_is)
    (case ktI => k_is)
    (case atE => k_is)
    (case itE => k_is)
    (case ltE => k_is)
    (case ctE => k_is)
    (case ktE => k_is)
    (case atH => k_is)
    (case itH => k_is)
    (case ltH => k_is)
    (case ctH => k_is)
    (case ktH => k_is)
    (case atB => k_is)
    (case itB => k_is)
    (case ltB => k_is)
    (case ctB => k_is)
    (case ktB => k_is)
    (case aCR => k_is)
    (case lCR => k_is)
    (case cCR => k_is)
    (case kCR => k_is)
    (case aCC2 => k_is)
    (case lCC2 => k_is)
    (case cCC2 => k_is)
    (case kCC2 => k_is)
    (case aTO => k_is)
    (case lTO => k_is)
    (case cTO => k_is)
    (case kTO => k_is)
    (case acI => k_is)
    (case icI => k_is)
    (case lcI => k_is)
    (case lTcI => k_is)
    (case ccI => k_is)
    (case kcI => k_is)
    (case aI3 => k_is)
    (case lI3 => k_is)
    (case cI3 => k_is)
    (case kI3 => k_is)
    (case aRO => k_is)
    (case lRO => k_is)
    (case cRO => k_is)
    (case kRO => k_is)
    (case aLR => k_is)
    (case lLR => k_is)
    (case cLR => k_is)
    (case kLR => k_is)
    (case aCH => k_is)
    (case lCH => k_is)
    (case cCH => k_is)
    (case kCH => k_is)
    (case aWR => k_is)
    (case lWR => k_is)
    (case cWR => k_is)
    (case kWR => k_is)
    (case aBU => k_is)
    (case lBU => k_is)
    (case cBU => k_is)
    (case kBU => k_is)
    (case aBT => k_is)
    (case lBT => k_is)
    (case cBT => k_is)
    (case kBT => k_is)
    (case abI => k_is)
    (case ibI => k_is)
    (case lbI => k_is)
    (case lTbI => k_is)
    (case lEbI => k_is)
    (case cbI => k_is)
    (case kbI => k_is)
    (case abE => k_is)
    (case ibE => k_is)
    (case lbE => k_is)
    (case cbE => k_is)
    (case kbE => k_is)
    (case abo => k_is)
    (case ibo => k_is)
    (case lbo => k_is)
    (case cbo => k_is)
    (case kbo => k_is)
    (case aba => k_is)
    (case iba => k_is)
    (case lba => k_is)
    (case cba => k_is)
    (case kba => k_is)
    (case aFB => k_is)
    (case lFB => k_is)
    (case cFB => k_is)
    (case kFB => k_is)
    (case abc => k_is)
    (case ibc => k_is)
    (case lbc => k_is)
    (case cbc => k_is)
    (case kbc => k_is)
    (case abl => k_is)
    (case ibl => k_is)
    (case lbl => k_is)
    (case cbl => k_is)
    (case kbl => k_is)
    (case abw => k_is)
    (case ibw => k_is)
    (case lbw => k_is)
    (case cbw => k_is)
    (case kbw => k_is)
    (case abu => k_is)
    (case ibu => k_is)
    (case lbu => k_is)
    (case cbu => k_is)
    (case kbu => k_is)
    (case aIW => k_is)
    (case lIW => k_is)
    (case cIW => k_is)
    (case kIW => k_is)
    (case aX => k_is)
    (case lX => k_is)
    (case cX => k_is)
    (case kX => k_is)
    (case aH => k_is)
    (case lH => k_is)
    (case cH => k_is)
    (case kH => k_is)
    (case aD => k_is)
    (case lD => k_is)
    (case cD => k_is)
    (case kD => k_is)
    (case aP => k_is)
    (case lP => k_is)
    (case cP => k_is)
    (case kP => k_is)
    (case aK => k_is)
    (case lK => k_is)
    (case cK => k_is)
    (case kK => k_is)
    (case aN => k_is)
    (case lN => k_is)
    (case cN => k_is)
    (case kN => k_is)
    (case aRD => k_is)
    (case lRD => k_is)
    (case cRD => k_is)
    (case kRD => k_is)
    (case aLC => k_is)
    (case lLC => k_is)
    (case cLC => k_is)
    (case kLC => k_is)
    (case aLE => k_is)
    (case lLE => k_is)
    (case cLE => k_is)
    (case kLE => k_is)
    (case aBA => k_is)
    (case lBA => k_is)
    (case cBA => k_is)
    (case kBA => k_is)
    (case aAW => k_is)
    (case lAW => k_is)
    (case cAW => k_is)
    (case kAW => k_is)
    (case aBH => k_is)
    (case lBH => k_is)
    (case cBH => k_is)
    (case kBH => k_is)
    (case z_max => k_is)
    (case aB => k_is)
    (case lB => k_is)
    (case cB => k_is)
    (case kB => k_is)
    (case aFI => k_is)
    (case lFI => k_is)
    (case cFI => k_is)
    (case kFI => k_is)
    (case aLW => k_is)
    (case lLW => k_is)
    (case cLW => k_is)
    (case kLW => k_is)
    (case aLO => k_is)
    (case lLO => k_is)
    (case cLO => k_is)
    (case kLO => k_is)
    (case aLK => k_is)
    (case lLK => k_is)
    (case cLK => k_is)
    (case kLK => k_is)
    (case aS => k_is)
    (case lS => k_is)
    (case cS => k_is)
    (case kS => k_is)
    (case aFL => k_is)
    (case lFL => k_is)
    (case cFL => k_is)
    (case kFL => k_is)
    (case aDT => k_is)
    (case lDT => k_is)
    (case cDT => k_is)
    (case kDT => k_is)
    (case aSB => k_is)
    (case lSB => k_is)
    (case cSB => k_is)
    (case kSB => k_is)
    (case aOB => k_is)
    (case lOB => k_is)
    (case cOB => k_is)
    (case kOB => k_is)
    (case aBO => k_is)
    (case lBO => k_is)
    (case cBO => k_is)
    (case kBO => k_is)
    (case aOT => k_is)
    (case lOT => k_is)
    (case cOT => k_is)
    (case kOT => k_is)
    (case aNT => k_is)
    (case lNT => k_is)
    (case cNT => k_is)
    (case kNT => k_is)
    (case aTG => k_is)
    (case lTG => k_is)
    (case cTG => k_is)
    (case kTG => k_is)
    (case aV => k_is)
    (case lV => k_is)
    (case cV => k_is)
    (case kV => k_is)

