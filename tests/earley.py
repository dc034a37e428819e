"""Another reader of the grammar, straight from its rules: it tells with which thing a text can no longer go on."""

GRAMMAR = """
query : with body tail | bodyw tail
queryw : with body tail | bodyw tail2
tail2 : tail
with : WITH ctes
ctes : cte | ctes , cte
cte : name AS ( queryb )
queryb : with body tail | bodyw tail
tail : orderopt limitopt offsetopt
orderopt : | ORDER BY items
items : item | items , item
limitopt : | LIMIT small
offsetopt : | OFFSET small
body : meet | body setop meet
bodyw : meet | bodyw setop meet
setop : UNION | UNION ALL | EXCEPT | EXCEPT ALL
meet : core | meet meetop core
meetop : INTERSECT | INTERSECT ALL
core : SELECT distinct outs from where groups having | VALUES rows | ( query )
distinct : | DISTINCT
outs : * | outlist
outlist : out | outlist , out
out : expr | expr AS name | name . *
from : | FROM sources
sources : source | sources , source
where : | WHERE expr
groups : | GROUP BY exprs
having : | HAVING expr
rows : ( exprs ) | rows , ( exprs )
source : base | source CROSS JOIN base | source side JOIN base ON expr
side : | INNER | LEFT | RIGHT | FULL
base : name | name name | name AS name | ( query ) name | ( query ) AS name
item : expr dir nulls
dir : | ASC | DESC
nulls : | NULLS FIRST | NULLS LAST
exprs : expr | exprs , expr
expr : both | expr OR both
both : denial | both AND denial
denial : NOT denial | test
test : sum | sum comp sum | sum IS notopt truth | sum notopt BETWEEN sum AND sum | sum notopt LIKE sum | sum notopt IN ( queryk ) | sum notopt IN ( exprs )
comp : = | <> | < | <= | > | >=
truth : NULL | TRUE | FALSE
notopt : | NOT
sum : prod | sum addop prod
addop : + | - | ||
prod : sign | prod mulop sign
mulop : * | /
sign : - sign | atom
atom : number | small | text | TRUE | FALSE | NULL | name | name . name | ( expr ) | ( queryk ) | EXISTS ( query ) | CASE whens else END | name ( args ) over
whens : when | whens when
when : WHEN expr THEN expr
else : | ELSE expr
args : | * | exprs | DISTINCT exprs
over : | OVER ( partition orderopt frame )
partition : | PARTITION BY exprs
frame : | ROWS BETWEEN edge AND edge
edge : UNBOUNDED way | CURRENT ROW | small way
way : PRECEDING | FOLLOWING
queryk : with body tail | bodyk tail
bodyk : meetk | bodyk setop meet
meetk : corek | meetk meetop core
corek : SELECT distinct outs from where groups having | VALUES rows
"""


def rules():
    found = {}
    for line in GRAMMAR.strip().split("\n"):
        left, right = line.split(" : ", 1)
        text = right.replace("||", "CATMARK")
        found[left] = [tuple(["||" if word == "CATMARK" else word for word in part.split()])
                       for part in text.split("|")]
    return found


RULES = rules()
NULLABLE = {name for name, parts in RULES.items() if () in parts}
NULLABLE.add("tail")
NULLABLE.add("tail2")


def terminals(thing):
    """The signs of the grammar for which a thing may stand."""
    sort, worth, _ = thing
    if sort == "number":
        return ("number", "small") if worth <= 2000 else ("number",)
    if sort == "text":
        return ("text",)
    if sort == "mark":
        return (worth,)
    return (worth.upper(),) if worth.upper() in KEYS else ("name",)


KEYS = {word for parts in RULES.values() for part in parts for word in part if word.isalpha() and word.isupper()}


def close(chart, at):
    states = list(chart[at])
    seen = set(states)
    while states:
        name, part, dot, start = states.pop()
        new = []
        if dot < len(part):
            word = part[dot]
            if word in RULES:
                new.extend([(word, other, 0, at) for other in RULES[word]])
                if word in NULLABLE:
                    new.append((name, part, dot + 1, start))
        else:
            for other in list(chart[start]):
                if other[2] < len(other[1]) and other[1][other[2]] == name:
                    new.append((other[0], other[1], other[2] + 1, other[3]))
        for state in new:
            if state not in seen:
                seen.add(state)
                chart[at].add(state)
                states.append(state)


def mistake(things, end):
    """The place of the first thing with which the text can no longer go on, the end, or None for a query."""
    chart = [set([("top", ("query",), 0, 0)])]
    close(chart, 0)
    for at, thing in enumerate(things):
        told = terminals(thing)
        chart.append(set([(name, part, dot + 1, start) for name, part, dot, start in chart[at]
                          if dot < len(part) and part[dot] in told]))
        close(chart, at + 1)
        if not chart[at + 1]:
            return thing[2]
    return None if ("top", ("query",), 1, 0) in chart[-1] else end
