"""[17], [18], told once more as a grammar: where a text of words stops being the begin of a saying."""

LETTERS = "abcdefghijklmnopqrstuvwxyz"
RESERVED = "all some no not at least most exactly more as many than of are and or things share".split()
# A part of a rule is a set of words, or ("term", how many openers may still stand within one another).
TERM = ("term", 7)


def words(text):
    return [{word} for word in text.split()]


def numbers(low, high):
    return {str(number) for number in range(low, high + 1)}


def saying_rules():
    found = [words(opening) + [TERM, {"are"}, TERM] for opening in ("all", "not all", "some", "no")]
    for opening in ("at least", "at most", "exactly"):
        found.append(words(opening) + [numbers(0, 41), TERM, {"are"}, TERM])
    found += [words("more") + [TERM, {"than"}, TERM], words("as many") + [TERM, {"as"}, TERM]]
    for opening in ("share", "not share"):
        for top in range(13):
            found.append(words(opening) + [{str(top)}, {"of"}, numbers(max(1, top), 12), TERM, {"are"}, TERM])
    return found


def term_rules(room, names):
    found = [[set(names) | {"things"}]]
    if room > 0:
        inner = ("term", room - 1)
        found += [[{"not"}, inner], [{"("}, inner, {"and", "or"}, inner, {")"}]]
    return found


def past(rules, word, names):
    """What may still come behind the word, by each of the rules that it goes on by."""
    found = []
    for rule in rules:
        if rule and isinstance(rule[0], tuple):
            found += past([inner + rule[1:] for inner in term_rules(rule[0][1], names)], word, names)
        elif rule and word in rule[0]:
            found.append(rule[1:])
    return found


def bad_word(text, names, rules=None):
    """The number of the word that no saying goes on by; how many words there are if more would have to come; or None."""
    left = saying_rules() if rules is None else rules
    given = text.split(" ")
    for at, word in enumerate(given):
        left = past(left, word, names)
        if not left:
            return at
    return None if [] in left else len(given)


def bad_term(text, names):
    """The same of a term alone."""
    return bad_word(text, names, [[TERM]])
