/-
  PACKED for a claim.
-/
import Derived.Test.YtichfdjjbafeiaaGreatJ34
import Derived.Test.YtichfdjjbafeiaaGreatJ36
set_option linter.unusedVariables false
set_option linter.unusedSimpArgs false
set_option maxRecDepth 100000
namespace Go.Proofs.YtichfdjjbafeiaaGreat
open Go.RowKit
def NW (lv x : Nat) : Prop := lv = 1 \/ wgt lv x < topW lv
def bdW (lv : Nat) : Int := if lv = 1 then 64256 else 1048576
theorem q4_of {x p s t : Nat} {v : Bool} (h : x = p * 65536 + s * 256 + t * 2 + (if v then 1 else 0)) (hs : s < 256) (ht : t < 128) : q4 x = [.int .i64 (p : Nat), .int .i64 (s : Nat), .int .i64 (t : Nat), .bool v] := by
 unfold q4
 cases v
 ·rw [if_neg (by simp)] at h
  rw [show x / 65536 = p by omega, show x / 256 % 256 = s by omega, show x / 2 % 128 = t by omega, show decide (x % 2 = 1) = false by simp; omega]
 ·rw [if_pos rfl] at h; rw [show x / 65536 = p by omega, show x / 256 % 256 = s by omega, show x / 2 % 128 = t by omega, show decide (x % 2 = 1) = true by simp; omega]
theorem ysy {lv fr x : Nat} (hl : Lv lv) (hx : x < 4294967296) (hn : NW lv x) {bd : Int} (hbd : bdW lv = bd) {P S T : Int} {V : Bool} (hq : q4 x = [.int .i64 P, .int .i64 S, .int .i64 T, .bool V]) {P' S' T' : Int} {V' : Bool} (hq' : q4 (up lv fr x) = [.int .i64 P', .int .i64 S', .int .i64 T', .bool V']) (w : World) :
  Calls Tryz.prog 126 #[.agg #[.int .i64 P, .int .i64 S, .int .i64 T, .bool V], .int .i64 (lv : Nat), .int .i64 (fr : Nat), .int .i64 bd] w fun e w' => e = .returned (.agg #[.int .i64 P', .int .i64 S', .int .i64 T', .bool V']) /\ Below w.heap.size w w' := by
 subst hbd; have h0 := hq; unfold q4 at h0; simp only [List.cons.injEq, Value.int.injEq, Value.bool.injEq, true_and, and_true] at h0; obtain ⟨hP, hS, hT, hV⟩ := h0
 have hw : ((wgt lv x : Nat) : Int) = (if lv = 1 then P else if lv = 2 then S else T) := by
  unfold wgt
  rcases hl with rfl | rfl | rfl
  ·rw [if_pos rfl, if_pos rfl]; exact hP
  ·rw [if_neg (by omega), if_pos rfl, if_neg (by omega), if_pos rfl]; exact hS
  ·rw [if_neg (by omega), if_neg (by omega), if_neg (by omega), if_neg (by omega)]; exact hT
 have htop := yhe (lv := lv) hx
 by_cases hk : wgt lv x <= fr \/ topW lv < wgt lv x
 ·have hu : up lv fr x = x := by unfold up; rw [if_pos hk]
  rw [hu, hq] at hq'; simp only [List.cons.injEq, Value.int.injEq, Value.bool.injEq, true_and, and_true] at hq'; obtain ⟨rfl, rfl, rfl, rfl⟩ := hq'; refine ymw hl P S T V hw.symm ?_ w
  rcases hk with hk | hk
  ·left; omega
  ·right
   rcases hl with rfl | rfl | rfl
   ·have : bdW 1 = 64256 := rfl
    have : topW 1 = 64255 := rfl
    omega
   ·have : topW 2 = 255 := rfl
    simp [topW] at htop hk; omega
   ·simp [topW] at htop hk; omega
 ·have hu : up lv fr x = putW lv x (wgt lv x + 1) := by unfold up; rw [if_neg hk]
  rw [hu] at hq'
  rcases hl with rfl | rfl | rfl
  ·have e1 : wgt 1 x = x / 65536 := rfl
   have e2 : topW 1 = 64255 := rfl
   have hp : putW 1 x (wgt 1 x + 1) = (x / 65536 + 1) * 65536 + (x / 256 % 256) * 256 + (x / 2 % 128) * 2 + (if decide (x % 2 = 1) then 1 else 0) := by
    unfold putW; rw [if_pos rfl, e1]
    by_cases h2 : x % 2 = 1
    ·simp only [h2, decide_true, if_true]; omega
    ·simp only [h2, decide_false, Bool.false_eq_true, if_false]; omega
   rw [q4_of hp (by omega) (by omega)] at hq'
   simp only [List.cons.injEq, Value.int.injEq, Value.bool.injEq, true_and, and_true] at hq'; obtain ⟨rfl, rfl, rfl, rfl⟩ := hq'; have h := ywq P S T V (fr := (fr : Int)) (bd := bdW 1) (by rw [e1] at hk; omega) (by have : bdW 1 = 64256 := rfl; rw [e1] at hk; omega) (by omega) w
   rw [<- hP, <- hS, <- hT, <- hV] at h |-; exact h
  ·have e1 : wgt 2 x = x / 256 % 256 := rfl
   have hn2 : x / 256 % 256 < 255 := by rcases hn with h | h; (· omega); exact h
   have hp : putW 2 x (wgt 2 x + 1) = (x / 65536) * 65536 + (x / 256 % 256 + 1) * 256 + (x / 2 % 128) * 2 + (if decide (x % 2 = 1) then 1 else 0) := by
    unfold putW; rw [if_neg (by omega), if_pos rfl, e1]
    by_cases h2 : x % 2 = 1
    ·simp only [h2, decide_true, if_true]; omega
    ·simp only [h2, decide_false, Bool.false_eq_true, if_false]; omega
   rw [q4_of hp (by omega) (by omega)] at hq'
   simp only [List.cons.injEq, Value.int.injEq, Value.bool.injEq, true_and, and_true] at hq'; obtain ⟨rfl, rfl, rfl, rfl⟩ := hq'; have h := ywp P S T V (fr := (fr : Int)) (bd := bdW 2) (by rw [e1] at hk; omega) (by have : bdW 2 = 1048576 := rfl; omega) (by omega) w
   rw [<- hP, <- hS, <- hT, <- hV] at h |-; exact h
  ·have e1 : wgt 3 x = x / 2 % 128 := rfl
   have hn2 : x / 2 % 128 < 127 := by rcases hn with h | h; (· omega); exact h
   have hp : putW 3 x (wgt 3 x + 1) = (x / 65536) * 65536 + (x / 256 % 256) * 256 + (x / 2 % 128 + 1) * 2 + (if decide (x % 2 = 1) then 1 else 0) := by
    unfold putW; rw [if_neg (by omega), if_neg (by omega), e1]
    by_cases h2 : x % 2 = 1
    ·simp only [h2, decide_true, if_true]; omega
    ·simp only [h2, decide_false, Bool.false_eq_true, if_false]; omega
   rw [q4_of hp (by omega) (by omega)] at hq'
   simp only [List.cons.injEq, Value.int.injEq, Value.bool.injEq, true_and, and_true] at hq'; obtain ⟨rfl, rfl, rfl, rfl⟩ := hq'; have h := ywo P S T V (fr := (fr : Int)) (bd := bdW 3) (by rw [e1] at hk; omega) (by have : bdW 3 = 1048576 := rfl; omega) (by omega) w
   rw [<- hP, <- hS, <- hT, <- hV] at h |-; exact h
theorem zab (w : World) {y : Nat} {P S T : Int} {V : Bool} (hq : q4 y = [.int .i64 P, .int .i64 S, .int .i64 T, .bool V]) {C : Nat} (hC : 1 <= C := by omega) : RdQ anyB (w.alloc (.cells #[.int .i64 P, .int .i64 S, .int .i64 T, .bool V] 91)) (.slice (some ⟨w.heap.size, 0, none⟩) [y].length C) [y] := by
 have h := RdF.new (n := 1) (C := C) w [.int .i64 P, .int .i64 S, .int .i64 T, .bool V] 91 hC; unfold RdQ qcells; rw [List.flatMap_cons, List.flatMap_nil, List.append_nil, hq]; exact h
set_option maxHeartbeats 4000000 in
theorem ycz {F : Nat -> Prop} {w : World} {v : Value} {l : List Nat} (h : RdQ F w v l) (hw : ∀ x ∈ l, x < 4294967296) (hll : l.length <= 1000) {lv fr : Nat} (hl : Lv lv) (hn : ∀ x ∈ l, NW lv x) {bd : Int} (hbd : bdW lv = bd) :
  Calls Tryz.prog 81 #[v, .int .i64 (lv : Nat), .int .i64 (fr : Nat), .int .i64 bd] w (GotQ w.heap.size w (l.map (up lv fr))) := by
 obtain ⟨A, c, rfl⟩ := h.form; have HR := zH h; have HWW := zH hw; have HL := zH hl; have HNW := zH hn; have HBD := zH hbd; obtain ⟨n, hln⟩ : ∃ n, l.length = n := ⟨_, rfl⟩; have HN := zH hln; rw [hln] at HR hll |-
 have hnI : (n : Int) <= 1000 := by omega
 clear h hw hl hn hbd hln
 go_enter Tryz.func81, Tryz.ntmps81
 go_wp2
 go_loopw [9, 10] (fun a i wr => ∃ k : Nat, k <= n /\ i = .int .i64 (k : Nat) /\ Hid (OwnQ w.heap.size wr a ((l.take k).map (up lv fr))) /\ Hid (Below w.heap.size w wr)) (fun _ i _ => n - (intOf i).toNat)
 case atStart => exact ⟨0, Nat.zero_le _, rfl, World.ownsRow_nil _ _ _ _, zR _ _⟩
 case round =>
  obtain ⟨k, hk, rfl, HO, HB⟩ := hrel
  by_cases hlt : k < n
  ·obtain ⟨x, hx⟩ : ∃ x, l[k]? = some x := ⟨_, List.getElem?_eq_getElem (by rw [HN.out]; exact hlt)⟩
   obtain ⟨g, o, rfl, c0, c1, c2, c3⟩ := RdQ.at (F := F) (RdQ.below HR.out HB.out (zN _)) hx; obtain ⟨y, hy⟩ : ∃ y, up lv fr x = y := ⟨_, rfl⟩; obtain ⟨P, hP⟩ : ∃ P, ((x / 65536 : Nat) : Int) = P := ⟨_, rfl⟩; obtain ⟨S, hS⟩ : ∃ P, ((x / 256 % 256 : Nat) : Int) = P := ⟨_, rfl⟩; obtain ⟨T, hT⟩ : ∃ P, ((x / 2 % 128 : Nat) : Int) = P := ⟨_, rfl⟩; obtain ⟨V, hV⟩ : ∃ P, decide (x % 2 = 1) = P := ⟨_, rfl⟩; obtain ⟨P', hP'⟩ : ∃ P, ((y / 65536 : Nat) : Int) = P := ⟨_, rfl⟩; obtain ⟨S', hS'⟩ : ∃ P, ((y / 256 % 256 : Nat) : Int) = P := ⟨_, rfl⟩; obtain ⟨T', hT'⟩ : ∃ P, ((y / 2 % 128 : Nat) : Int) = P := ⟨_, rfl⟩; obtain ⟨V', hV'⟩ : ∃ P, decide (y % 2 = 1) = P := ⟨_, rfl⟩
   have hq : q4 x = [.int .i64 P, .int .i64 S, .int .i64 T, .bool V] := by unfold q4; rw [hP, hS, hT, hV]
   have hq' : q4 y = [.int .i64 P', .int .i64 S', .int .i64 T', .bool V'] := by unfold q4; rw [hP', hS', hT', hV']
   have hq2 := hq'; rw [<- hy] at hq2; rw [hP] at c0; rw [hS] at c1; rw [hT] at c2; rw [hV] at c3; have CR := zH (fun w => ysy (fr := fr) HL.out (HWW.out x (List.mem_of_getElem? hx)) (HNW.out x (List.mem_of_getElem? hx)) HBD.out hq hq2 w)
   have HQ := zH hq'
   have HNX : Hid ((l.take (k + 1)).map (up lv fr) = (l.take k).map (up lv fr) ++ [y]) := by show _ = _; rw [List.take_add_one, hx, List.map_append, <- hy]; rfl
   have HLN : Hid (((l.take k).map (up lv fr)).length + [y].length <= 1000000) := by show _ <= _; rw [List.length_map, List.length_take]; simp; omega
   have hkI : (k : Int) < (n : Int) := by omega
   clear hx hy hP hS hT hV hP' hS' hT' hV' hq hq' hq2 hlt
   go_wp2_with (first
    | (go_at_call 126; refine (CR.out _).mono ?_; rintro q w1 ⟨rfl, hb⟩; have HB1 := zH (HB.out.trans (hb.mono HB.out.size)); have HO1 := zH (R4.yai HO.out hb (zN _)); clear hb c0 c1 c2 c3)
    | (at_builtin; refine appendQ rfl (.tmp 17) (.tmp 26) rfl _ w.heap.size _ _ [y] rfl (R4.yai HO1.out (yaa w1 _) (zN _)) rfl (zab w1 HQ.out) (Nat.le_trans HB1.out.size (yaa w1 _).size) HLN.out ?_; intro v2 w2 ho2 hg2 hb2; rw [<- HNX.out] at ho2; have HO2 := zH ho2; have HB2 := zH ((HB1.out.trans ((yaa w1 _).mono HB1.out.size)).trans hb2); clear ho2 hg2 hb2))
   go_roundw
   case rel => exact ⟨k + 1, by omega, by go_num, HO2.out, HB2.out⟩
   case measure => simp [intOf] <;> omega
  ·obtain rfl : k = n := by omega
   have HF : Hid ((l.take k).map (up lv fr) = l.map (up lv fr)) := by show _ = _; rw [List.take_of_length_le (by rw [HN.out]; exact zN _)]
   clear hlt
   go_wp2
   go_ret
   exact ⟨_, rfl, by rw [<- HF.out]; exact HO.out, HB.out⟩
end Go.Proofs.YtichfdjjbafeiaaGreat
section
namespace Go.Proofs.YtichfdjjbafeiaaGreat
open Go.RowKit
section
variable {P : Program} {ops : Array Oper} {Q : Exit -> Act -> World -> Prop} {m : Nat}
def OpIsE (P : Program) (ops : Array Oper) (Q : Exit -> Act -> World -> Prop) (ts : Array Value) (df : List Deferred) (ds : List Nat) (Vs : List SV) (ex : Nat -> Nat) (D : Nat -> Nat -> Bool) (w : World) (i : Nat) : Prop :=
 ∀ o, ops[i]? = some o -> ∀ (vs : Nat -> Value) (w1 : World), Below w.heap.size w w1 -> (∀ j, Region.waitsFor .any ops i j = true -> (ex j = i \/ ops.size <= ex j) -> (Vs.getD j SV.any).p (vs j) w1) →
  ∀ K : Act -> World -> Prop, (∀ v w2, (Vs.getD i SV.any).p v w2 -> Below w.heap.size w w2 -> (∀ j, j ≠ i -> ex j ≠ i -> D i j = false -> D (ex j) i = false -> ∀ u, (Vs.getD j SV.any).p u w1 -> (Vs.getD j SV.any).p u w2) -> K ⟨(frameV ts ds vs 0).setIfInBounds (ds.getD i 0) v, df⟩ w2) →
   if Region.wanted o (yielded ops (frameV ts ds vs 0)) = true then Oper.wp P o ⟨frameV ts ds vs 0, df⟩ w1 K Q else K (Act.put ⟨frameV ts ds vs 0, df⟩ o.dst undef) w1
theorem OpIsE.mk {ts : Array Value} {df : List Deferred} {ds : List Nat} {Vs : List SV} {ex : Nat -> Nat} {D : Nat -> Nat -> Bool} {w : World} {i : Nat} {o : Oper} (ho : ops[i]? = some o)
  (h : ∀ (vs : Nat -> Value) (w1 : World), Below w.heap.size w w1 -> (∀ j, Region.waitsFor .any ops i j = true -> (ex j = i \/ ops.size <= ex j) -> (Vs.getD j SV.any).p (vs j) w1) →
  ∀ K : Act -> World -> Prop, (∀ v w2, (Vs.getD i SV.any).p v w2 -> Below w.heap.size w w2 -> (∀ j, j ≠ i -> ex j ≠ i -> D i j = false -> D (ex j) i = false -> ∀ u, (Vs.getD j SV.any).p u w1 -> (Vs.getD j SV.any).p u w2) -> K ⟨(frameV ts ds vs 0).setIfInBounds (ds.getD i 0) v, df⟩ w2) →
   if Region.wanted o (yielded ops (frameV ts ds vs 0)) = true then Oper.wp P o ⟨frameV ts ds vs 0, df⟩ w1 K Q else K (Act.put ⟨frameV ts ds vs 0, df⟩ o.dst undef) w1) : OpIsE P ops Q ts df ds Vs ex D w i := fun o' ho' => by
 have : o = o' := Option.some.inj (ho.symm.trans ho')
 subst this; exact h
def freeB (ops : Array Oper) (ex : Nat -> Nat) (i : Nat) : Bool := (List.range ops.size).all fun j => !Region.waitsFor .any ops i j || decide (ex j = i) || decide (ops.size <= ex j)
theorem yvv {i j : Nat} (hb : backB ops = true) (h : Region.waitsFor .any ops i j = true) : j < ops.size := by
 obtain ⟨oj, hoj, e, he, hb2, hon⟩ := Region.waitsFor_spec h; have his := (Array.getElem?_eq_some_iff.1 hoj).1; have h1 := List.all_eq_true.1 hb i (List.mem_range.2 his); rw [hoj] at h1; simp only [Option.map_some, Option.getD_some] at h1; have h2 := Array.all_eq_true_iff_forall_mem.1 h1 e he
 have h3 : e.on < i := by simpa [hb2] using h2
 omega
def deepB (ops : Array Oper) (D : Nat -> Nat -> Bool) : Bool := (List.range ops.size).all fun i => (List.range ops.size).all fun j => !D i j || Region.waitsFor .any ops j i || (List.range j).any fun k => D i k && Region.waitsFor .any ops j k
theorem yes {D : Nat -> Nat -> Bool} (hD : deepB ops D = true) {listed : Array Bool} (inv : HeadInv .any ops m listed) : ∀ (n i j : Nat), j < n -> i < ops.size -> j < ops.size -> D i j = true -> listed.getD j false = true -> listed.getD i false = true
 | 0, i, j, hj, _, _, _, _ => absurd hj (Nat.not_lt_zero _)
 | n + 1, i, j, hj, hi, hjs, hd, hl => by
  have h1 := List.all_eq_true.1 (List.all_eq_true.1 hD i (List.mem_range.2 hi)) j (List.mem_range.2 hjs); simp only [hd, Bool.not_true, Bool.false_or, Bool.or_eq_true, List.any_eq_true, List.mem_range, Bool.and_eq_true] at h1
  have hw : ∀ k, Region.waitsFor .any ops j k = true -> listed.getD k false = true := fun k hk => by
   obtain ⟨oj, hoj, e, he, hb2, hon⟩ := Region.waitsFor_spec hk; rw [<- hon]; exact inv.closed j oj hoj hl e he hb2
  rcases h1 with h1 | ⟨k, hk, h2, h3⟩
  ·exact hw i h1
  ·exact yes hD inv n i k (by omega) hi (by omega) h2 (hw k h3)
theorem yqw {D : Nat -> Nat -> Bool} (hD : deepB ops D = true) {listed : Array Bool} (inv : HeadInv .any ops m listed) {k i : Nat} (hi : i < ops.size) (hk : k < ops.size) (hw : ∀ j, Region.waitsFor .any ops i j = true -> listed.getD j false = true) (hd : D k i = true) : listed.getD k false = true := by
 have h1 := List.all_eq_true.1 (List.all_eq_true.1 hD k (List.mem_range.2 hk)) i (List.mem_range.2 hi); simp only [hd, Bool.not_true, Bool.false_or, Bool.or_eq_true, List.any_eq_true, List.mem_range, Bool.and_eq_true] at h1
 rcases h1 with h1 | ⟨k2, hk2, h2, h3⟩
 ·exact hw k h1
 ·exact yes hD inv (k2 + 1) k k2 (Nat.lt_succ_self _) hk (by omega) h2 (hw k2 h3)
theorem OpIs.toE {ts : Array Value} {df : List Deferred} {ds : List Nat} {Vs : List SV} {ex : Nat -> Nat} {D : Nat -> Nat -> Bool} {w : World} {i : Nat} (hb : backB ops = true) (hf : freeB ops ex i = true) (h : OpIs P ops Q ts df ds Vs w i) : OpIsE P ops Q ts df ds Vs ex D w i := fun o ho vs w1 hbl hv K hK =>
 h o ho vs w1 hbl (fun j hj => hv j hj (by
  have h1 := List.all_eq_true.1 hf j (List.mem_range.2 (yvv hb hj)); simp only [hj, Bool.not_true, Bool.false_or, Bool.or_eq_true, decide_eq_true_eq] at h1; exact h1)) K fun v w2 h1 h2 => hK v w2 h1 (hbl.trans (h2.mono hbl.size)) fun j _ _ _ _ u hu => (Vs.getD j SV.any).st _ _ _ hu h2
theorem yyy {ts : Array Value} {df : List Deferred} {ds : List Nat} {Vs : List SV} {w : World} {x : Nat} {ex : Nat -> Nat} {D : Nat -> Nat -> Bool} (hD : deepB ops D = true) (hDo : ∀ k i, ops.size <= k -> D k i = false) (hx : x < m) (hbk : backB ops = true) (hw : ∀ i, i < m -> i ≠ x -> Region.waitsFor .any ops m i = true) (hc : Region.chainB .any ops m = true) (hlt : m < ops.size) (hn : ds.Nodup) (hdl : ds.length = m)
  (hq : Region.seqB .any ops (ops.toList.drop m).length m (Array.replicate m true ++ Array.replicate (ops.size - m) false) = true)
  (hqx : seqLB ops (restL m (ops.size - (m + 1)) x) (((Array.replicate m true ++ Array.replicate (ops.size - m) false).setIfInBounds x false).setIfInBounds m true) = true)
  (hop : ∀ i, i < m -> OpIsE P ops Q ts df ds Vs ex D w i)
  (hend : ∀ (vs : Nat -> Value) (w1 : World), Below w.heap.size w w1 -> (∀ j, j < m -> ops.size <= ex j -> (Vs.getD j SV.any).p (vs j) w1) -> wpList P ops Q (ops.toList.drop m) ⟨frameV ts ds vs 0, df⟩ w1)
  (hexc : ∀ (vs : Nat -> Value) (w1 : World), Below w.heap.size w w1 -> (∀ j, j < m -> j ≠ x -> ops.size <= ex j -> (Vs.getD j SV.any).p (vs j) w1) -> wpList P ops Q ((m :: restL m (ops.size - (m + 1)) x).filterMap fun k => ops[k]?) ⟨frameV ts ds vs 0, df⟩ w1) :
  ∀ (u fuel : Nat) (listed : Array Bool) (vs : Nat -> Value) (w1 : World), unl listed m = u -> u + (ops.size - m) <= fuel -> HeadInv .any ops m listed -> Below w.heap.size w w1 →
   (∀ j, j < m -> listed.getD j false = true -> listed.getD (ex j) false = false -> (Vs.getD j SV.any).p (vs j) w1) -> wpAny P .any ops Q fuel listed ⟨frameV ts ds vs 0, df⟩ w1 := by
 intro u
 induction u with
 | zero =>
  intro fuel listed vs w1 hu hf inv hb hv; have hall := ygq listed m hu
  have hlisted : listed = Array.replicate m true ++ Array.replicate (ops.size - m) false := by
   apply Array.ext
   ·rw [inv.size]; simp; omega
   ·intro i h1 h2; rw [inv.size] at h1
    rcases Nat.lt_or_ge i m with hi | hi
    ·rw [Array.getElem_append_left (by simpa using hi)]
     have := hall i hi
     simp [Array.getD, inv.size, h1] at this
     simpa using this
    ·rw [Array.getElem_append_right (by simpa using hi)]
     have := inv.tail i hi h1
     simp [Array.getD, inv.size, h1] at this
     simpa using this
  refine ylb (ops.toList.drop m) m fuel listed _ w1 (fun j => by simp [List.getElem?_drop]) (by simp; omega) (by rw [hlisted]; exact hq) ?_
  refine hend vs w1 hb fun j hj hej => hv j hj ?_ (by simp [Array.getD, inv.size, show ¬ ex j < ops.size by omega])
  have := hall j hj
  simp [Array.getD, inv.size, show j < ops.size by omega] at this |-
  exact this
 | succ u ih =>
  intro fuel listed vs w1 hu hf inv hb hv; obtain ⟨i0, hi0, hun0⟩ := yjn listed m (by omega)
  obtain ⟨f, rfl⟩ : ∃ f, fuel = f + 1 := ⟨fuel - 1, by omega⟩
  have hne : Region.ready .any ops listed ≠ [] := by
   intro hr; obtain ⟨j, hj⟩ := yea hbk inv.size (i0 + 1) i0 (by omega) (by omega) hun0
   rw [hr] at hj
   cases hj
  refine ⟨fun h => absurd h hne, fun i hi => ?_⟩
  obtain ⟨hun, o, ho, hall⟩ := mem_ready.1 hi
  have hwait : ∀ j, Region.waitsFor .any ops i j = true -> listed.getD j false = true := fun j hj => by
   obtain ⟨oj, hoj, e, he, hb2, hon⟩ := Region.waitsFor_spec hj
   have : oj = o := Option.some.inj (hoj.symm.trans ho)
   subst this; rw [<- hon]; exact hall e he hb2
  rcases Nat.lt_or_ge i m with him | him
  ·refine wpOp_step ho fun K hK => ?_
   refine hop i him o ho vs w1 hb (fun j hj hej => ?_) K fun v w2 hv2 hb2 hst => hK _ _ ?_
   ·have hjl := hwait j hj
    rcases Nat.lt_or_ge j m with h | h
    ·refine hv j h hjl ?_
     rcases hej with hej | hej
     ·rw [hej]; exact getD_both hun
     ·simp [Array.getD, inv.size, show ¬ ex j < ops.size by omega]
    ·exfalso
     rcases Nat.lt_or_ge j ops.size with h' | h'
     ·have := inv.tail j h h'
      rw [getD_both this] at hjl
      cases hjl
     ·simp [Array.getD, inv.size, show ¬ j < ops.size by omega] at hjl
   ·have hdi : ds[i]? = some (ds.getD i 0) := by
     rw [List.getD_eq_getElem?_getD, List.getElem?_eq_getElem (by omega)]; rfl
    have := yeh (ts := ts) (v := v) (i := i) ds (vs := vs) 0 i hn hdi (by omega)
    rw [<- this]; refine ih f _ (upd vs i v) w2 (by have := yjm listed i hun m him; omega) (by omega) (inv.set hi him) hb2 fun j hj hl hel => ?_
    unfold upd
    by_cases e : j = i
    ·subst e; rw [if_pos rfl]; exact hv2
    ·rw [if_neg e]; rw [getD_set_ne false (Ne.symm e)] at hl
     have hei : ex j ≠ i := by
      intro e2; rw [e2] at hel
      have : (listed.setIfInBounds i true).getD i false = true := by
       have his : i < ops.size := by omega
       simp [Array.getD, inv.size, his]
      rw [this] at hel
      cases hel
     rw [getD_set_ne false (Ne.symm hei)] at hel; refine hst j e hei ?_ ?_ _ (hv j hj hl hel)
     rotate_left
     ·cases hdd : D (ex j) i with
      | false => rfl
      | true =>
       rcases Nat.lt_or_ge (ex j) ops.size with h8 | h8
       ·have h9 := yqw hD inv (i := i) (k := ex j) (by omega) h8 hwait hdd
        rw [h9] at hel
        cases hel
       ·exact absurd hdd (by rw [hDo (ex j) i h8]; simp)
     cases hdd : D i j with
     | false => rfl
     | true =>
      have h9 := yes hD inv (j + 1) i j (Nat.lt_succ_self _) (by omega) (by omega) hdd hl
      rw [getD_both hun] at h9
      cases h9
  ·obtain rfl := yjf hc inv hi him
   have hlst : ∀ j, j < i -> j ≠ x -> listed.getD j false = true := fun j hj hjx => hwait j (hw j hj hjx)
   have hxun : listed.getD x true = false := by
    by_cases e : i0 = x
    ·subst e; exact hun0
    ·have := hlst i0 hi0 e
     rw [getD_both hun0] at this
     cases this
   have hlisted : listed = (Array.replicate i true ++ Array.replicate (ops.size - i) false).setIfInBounds x false := by
    apply Array.ext
    ·rw [inv.size]; simp; omega
    ·intro j h1 h2; rw [inv.size] at h1; rw [Array.getElem_setIfInBounds (by simp; omega)]
     by_cases e : x = j
     ·subst e; rw [if_pos rfl]
      simpa [Array.getD, inv.size, h1] using hxun
     ·rw [if_neg e]
      rcases Nat.lt_or_ge j i with hi | hi
      ·rw [Array.getElem_append_left (by simpa using hi)]
       have := hlst j hi (Ne.symm e)
       simp [Array.getD, inv.size, h1] at this
       simpa using this
      ·rw [Array.getElem_append_right (by simpa using hi)]
       have := inv.tail j hi h1
       simp [Array.getD, inv.size, h1] at this
       simpa using this
   have hx2 := hexc vs w1 hb fun j hj hjx hej => hv j hj (hlst j hj hjx) (by simp [Array.getD, inv.size, show ¬ ex j < ops.size by omega])
   rw [List.filterMap_cons, ho] at hx2
   have hw2 : wpOp P ops Q i (wpList P ops Q ((restL i (ops.size - (i + 1)) x).filterMap fun k => ops[k]?)) ⟨frameV ts ds vs 0, df⟩ w1 := by unfold wpOp; simp only [ho]; exact hx2
   refine wpOp_mono (fun a' w' h' => yla _ f _ a' w' (fun k hk => ?_) ?_ (by rw [hlisted]; exact hqx) h') hw2
   ·unfold restL at hk
    rcases List.mem_cons.1 hk with hk | hk
    ·omega
    ·obtain ⟨j, hj, rfl⟩ := List.mem_map.1 hk
     have := List.mem_range.1 hj
     omega
   ·simp [restL]; omega
theorem ycv {id : Nat} {ts : Array Value} {df : List Deferred} {w : World} (x : Nat) (ex : Nat -> Nat) (D : Nat -> Nat -> Bool) (hD : deepB ops D = true) (hDo : ∀ k i, ops.size <= k -> D k i = false) (ds : List Nat) (Vs : List SV) (hm : P.follows .mixedOrders = true) (hok : anyxOk ops m x ds = true)
  (hop : AllB (OpIsE P ops Q ts df ds Vs ex D w) m)
  (hend : ∀ (vs : Nat -> Value) (w1 : World), Below w.heap.size w w1 -> (∀ j, j < m -> ops.size <= ex j -> (Vs.getD j SV.any).p (vs j) w1) -> wpList P ops Q (ops.toList.drop m) ⟨frameV ts ds vs 0, df⟩ w1)
  (hexc : ∀ (vs : Nat -> Value) (w1 : World), Below w.heap.size w w1 -> (∀ j, j < m -> j ≠ x -> ops.size <= ex j -> (Vs.getD j SV.any).p (vs j) w1) -> wpList P ops Q ((ops.toList.drop m).take 1 ++ (ops.toList.drop x).take 1 ++ ops.toList.drop (m + 1)) ⟨frameV ts ds vs 0, df⟩ w1) :
  (Code.region id ops true).wp P Q ⟨ts, df⟩ w := by
 simp only [anyxOk, Bool.and_eq_true, decide_eq_true_eq] at hok; obtain ⟨⟨⟨⟨⟨⟨⟨⟨h0, h1⟩, h2⟩, h3⟩, h4⟩, h5⟩, h6⟩, h7⟩, h8⟩ := hok; refine wp_region_any hm ?_
 have hw : ∀ i, i < m -> i ≠ x -> Region.waitsFor .any ops m i = true := fun i hi hix => by
  have := List.all_eq_true.1 h1 i (List.mem_range.2 hi)
  simpa [hix] using this
 have hstart := ycs (ts := ts) ds (fun i => ts.getD (ds.getD i 0) undef) 0 fun j d hd => by
  rw [Nat.zero_add, List.getD_eq_getElem?_getD, hd]; rfl
 have hgo := yyy (ex := ex) hD hDo h7 h0 hw h2 h3 h4 h5 h6 h8 hop.all hend (fun vs w1 hb hv => by rw [yog h3 h7]; exact hexc vs w1 hb hv) (unl (Array.replicate ops.size false) m) ops.size (Array.replicate ops.size false) (fun i => ts.getD (ds.getD i 0) undef) w.drew rfl ?_ ?_ ((zR _ w).drew) ?_
 ·rw [hstart] at hgo; exact hgo
 ·have hle : ∀ n, unl (Array.replicate ops.size false) n <= n := by
   intro n
   induction n with
   | zero => exact zN _
   | succ n ih => rw [unl]; split <;> omega
  have := hle m
  omega
 ·exact ⟨by simp, (fun j oj _ hl => absurd hl (by rw [getD_replicate_false]; exact Bool.false_ne_true)), (fun t _ ht' => by simp [ht'])⟩
 ·intro j _ hl _; exact absurd hl (by rw [getD_replicate_false]; exact Bool.false_ne_true)
end
end Go.Proofs.YtichfdjjbafeiaaGreat
end
