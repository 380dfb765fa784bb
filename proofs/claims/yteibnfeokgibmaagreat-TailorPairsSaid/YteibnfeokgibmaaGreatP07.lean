/-
  PACKED for a claim.
-/
import Derived.Test.YteibnfeokgibmaaGreatP05
import Derived.Test.YteibnfeokgibmaaGreatP06
set_option linter.unusedVariables false
set_option linter.unusedSimpArgs false
set_option maxRecDepth 100000
namespace Go.Proofs.YteibnfeokgibmaaGreat
def varC : List Int := [32, 95, 45, 44, 46, 39]
def varE (k : Nat) : PE := ([varC.getD k 0], [E3.mk (16 + 4 * k) 32 2 1])
def digE (k : Nat) : PE := ([48 + (k : Int)], [E3.mk (128 + 4 * k) 32 2 0])
def letW (c : Nat) : Nat := if c <= 90 then E3.mk (256 + 8 * (c - 65)) 32 8 0 else E3.mk (256 + 8 * (c - 97)) 32 2 0
def letE (k : Nat) : List PE := [([97 + (k : Int)], [letW (97 + k)]), ([65 + (k : Int)], [letW (65 + k)])]
def mkC : List Int := [768, 769, 770, 771, 772, 776, 778, 807]
def mkS (c : Int) : Nat := if c = 768 then 37 else if c = 769 then 36 else if c = 770 then 39 else if c = 771 then 45 else if c = 772 then 47 else if c = 776 then 43 else if c = 778 then 41 else if c = 807 then 48 else 0
def mkW (c : Int) : Nat := E3.mk 0 (mkS c) 2 0
def mkE (k : Nat) : PE := ([mkC.getD k 0], [mkW (mkC.getD k 0)])
def runs : List (Nat × Nat × List Int) := [(192, 65, [768, 769, 770, 771, 776, 778]), (199, 67, [807]), (200, 69, [768, 769, 770, 776]), (204, 73, [768, 769, 770, 776]), (209, 78, [771]), (210, 79, [768, 769, 770, 771, 776]), (217, 85, [768, 769, 770, 776]), (221, 89, [769])]
def compE (f l : Nat) (ms : List Int) (i : Nat) : List PE := [([(f : Int) + (i : Int)], [letW l, mkW (ms.getD i 0)]), ([(f : Int) + (i : Int) + 32], [letW (l + 32), mkW (ms.getD i 0)])]
def compR (r : Nat × Nat × List Int) : List PE := (List.range r.2.2.length).flatMap (compE r.1 r.2.1 r.2.2)
def othP : List PE := [([223], [E3.mk 400 32 4 0, E3.mk 400 32 4 0]), ([198], [E3.mk 256 32 10 0, E3.mk 288 32 10 0]), ([230], [E3.mk 256 32 4 0, E3.mk 288 32 4 0]), ([173], [])]
def rawP : List PE := (List.range 6).map varE ++ ((List.range 10).map digE ++ ((List.range 26).flatMap letE ++ ((List.range 8).map mkE ++ (runs.flatMap compR ++ othP))))
def rootP : List PE := [([32], [1056773]), ([39], [2367493]), ([44], [1843205]), ([45], [1581061]), ([46], [2105349]), ([48], [8396804]), ([49], [8658948]), ([50], [8921092]), ([51], [9183236]), ([52], [9445380]), ([53], [9707524]), ([54], [9969668]), ([55], [10231812]), ([56], [10493956]), ([57], [10756100]), ([65], [16785424]), ([66], [17309712]), ([67], [17834000]), ([68], [18358288]), ([69], [18882576]), ([70], [19406864]), ([71], [19931152]), ([72], [20455440]), ([73], [20979728]), ([74], [21504016]), ([75], [22028304]), ([76], [22552592]), ([77], [23076880]), ([78], [23601168]), ([79], [24125456]), ([80], [24649744]), ([81], [25174032]), ([82], [25698320]), ([83], [26222608]), ([84], [26746896]), ([85], [27271184]), ([86], [27795472]), ([87], [28319760]), ([88], [28844048]), ([89], [29368336]), ([90], [29892624]), ([95], [1318917]), ([97], [16785412]), ([98], [17309700]), ([99], [17833988]), ([100], [18358276]), ([101], [18882564]), ([102], [19406852]), ([103], [19931140]), ([104], [20455428]), ([105], [20979716]), ([106], [21504004]), ([107], [22028292]), ([108], [22552580]), ([109], [23076868]), ([110], [23601156]), ([111], [24125444]), ([112], [24649732]), ([113], [25174020]), ([114], [25698308]), ([115], [26222596]), ([116], [26746884]), ([117], [27271172]), ([118], [27795460]), ([119], [28319748]), ([120], [28844036]), ([121], [29368324]), ([122], [29892612]), ([173], []), ([192], [16785424, 9476]), ([193], [16785424, 9220]), ([194], [16785424, 9988]), ([195], [16785424, 11524]), ([196], [16785424, 11012]), ([197], [16785424, 10500]), ([198], [16785428, 18882580]), ([199], [17834000, 12292]), ([200], [18882576, 9476]), ([201], [18882576, 9220]), ([202], [18882576, 9988]), ([203], [18882576, 11012]), ([204], [20979728, 9476]), ([205], [20979728, 9220]), ([206], [20979728, 9988]), ([207], [20979728, 11012]), ([209], [23601168, 11524]), ([210], [24125456, 9476]), ([211], [24125456, 9220]), ([212], [24125456, 9988]), ([213], [24125456, 11524]), ([214], [24125456, 11012]), ([217], [27271184, 9476]), ([218], [27271184, 9220]), ([219], [27271184, 9988]), ([220], [27271184, 11012]), ([221], [29368336, 9220]), ([223], [26222600, 26222600]), ([224], [16785412, 9476]), ([225], [16785412, 9220]), ([226], [16785412, 9988]), ([227], [16785412, 11524]), ([228], [16785412, 11012]), ([229], [16785412, 10500]), ([230], [16785416, 18882568]), ([231], [17833988, 12292]), ([232], [18882564, 9476]), ([233], [18882564, 9220]), ([234], [18882564, 9988]), ([235], [18882564, 11012]), ([236], [20979716, 9476]), ([237], [20979716, 9220]), ([238], [20979716, 9988]), ([239], [20979716, 11012]), ([241], [23601156, 11524]), ([242], [24125444, 9476]), ([243], [24125444, 9220]), ([244], [24125444, 9988]), ([245], [24125444, 11524]), ([246], [24125444, 11012]), ([249], [27271172, 9476]), ([250], [27271172, 9220]), ([251], [27271172, 9988]), ([252], [27271172, 11012]), ([253], [29368324, 9220]), ([768], [9476]), ([769], [9220]), ([770], [9988]), ([771], [11524]), ([772], [12036]), ([776], [11012]), ([778], [10500]), ([807], [12292])]
theorem root_perm : rawP.Perm rootP := by
 rw [<- List.isPerm_iff]
 decide +kernel
theorem root_srt : Srt rootP := by
 unfold Srt
 decide +kernel
theorem root_good : GoodT rootP where
 srt := root_srt
 seq := by decide +kernel
 els := by decide +kernel
 len := by decide +kernel
theorem yxn {a b : List PE} (hp : a.Perm b) (ha : Srt a) (hb : Srt b) : a = b :=
 List.Perm.eq_of_pairwise (le := fun x y : PE => ord x.1 y.1 < 0) (fun x y _ _ h1 h2 => by have := to_ord.anti x.1 y.1; omega) ha hb hp
open R4 (findP ykv Uniq MayP)
theorem yjl {L : List PE} (c : Int) : ∀ k : Nat, findP (ones k L) c = match place L [c] with | some j => (k : Int) + j + 1 | none => 0 := by
 induction L with
 | nil => intro k; rfl
 | cons e t ih =>
  intro k; rw [yaz, ones]
  by_cases h1 : e.1.length = 1
  ·rw [if_pos h1, List.singleton_append, findP]; have he := ykq h1
   by_cases h2 : hd e.1 = c
   ·rw [if_pos h2, if_pos (by rw [he, h2])]
    simp
   ·rw [if_neg h2, if_neg (fun h => h2 (by rw [h]; rfl)), ih]
    cases place t [c] with
    | none => rfl
    | some j => show ((k + 1 : Nat) : Int) + (j : Int) + 1 = (k : Int) + ((j + 1 : Nat) : Int) + 1; omega
  ·rw [if_neg h1, List.nil_append, if_neg (fun h => h1 (by rw [h]; rfl)), ih]
   cases place t [c] with
   | none => rfl
   | some j => show ((k + 1 : Nat) : Int) + (j : Int) + 1 = (k : Int) + ((j + 1 : Nat) : Int) + 1; omega
theorem yui {L : List PE} (h : Srt L) (k : Nat) : Uniq (ones k L) := by
 induction L generalizing k with
 | nil => exact List.Pairwise.nil
 | cons e t ih =>
  have hs := List.pairwise_cons.1 h; rw [ones]
  by_cases h1 : e.1.length = 1
  ·rw [if_pos h1, List.singleton_append]; refine List.pairwise_cons.2 ⟨fun p hp => ?_, ih hs.2 _⟩
   obtain ⟨f, hf, e2, _⟩ := yki hp; intro e3; have h3 := ord_ne (hs.1 f hf)
   apply h3
   rw [e2, <- e3]; exact ykq h1
  ·rw [if_neg h1, List.nil_append]; exact ih hs.2 _
theorem yzk {L : List PE} (h : GoodT L) : ∀ p ∈ ones 0 L, MayP p := by
 intro p hp; obtain ⟨e, he, e1, h1, h2⟩ := yki hp; have hl := h.len; have hq := (h.seq e he).2.2; rw [e1] at hq; have hr := yfb (c := p.1) (by simpa using hq)
 exact ⟨hr.1, hr.2, by omega, by omega⟩
end Go.Proofs.YteibnfeokgibmaaGreat
