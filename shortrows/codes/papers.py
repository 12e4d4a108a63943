"""Papers that show that no lengths have a smaller sum."""

from shortrows.codes.lengths import can_be, cost_of, least_lengths


def paper_of(counts):
    # As many bits as things are always enough, so that this bound binds nothing.
    return (least_lengths(counts, len(counts)), lightest_first(counts))


def lightest_first(counts):
    paper = []
    standing = by_weight([(count, thing) for thing, count in enumerate(counts)])
    while len(standing) > 1:
        one = standing[0]
        other = standing[1]
        both = (one[0] + other[0], len(counts) + len(paper))
        paper.append((one[1], other[1]))
        standing = by_weight(standing[2:] + [both])
    return tuple(paper)


def by_weight(standing):
    return sorted(standing, key=lambda item: item[0])


def paper_shown(counts, lengths, paper):
    # One thing alone has a word of one bit, though nothing is put together that could weigh as much.
    if len(counts) == 1:
        return len(paper) == 0 and lengths[0] == 1
    weight = weight_put_together(counts, paper)
    return weight is not None and can_be(lengths) and cost_of(counts, lengths) == weight


def weight_put_together(counts, paper):
    standing = dict(enumerate(counts))
    weight = 0
    for number, pair in enumerate(paper, start=len(counts)):
        if not may_be_put(standing, pair[0], pair[1]):
            return None
        standing[number] = standing.pop(pair[0]) + standing.pop(pair[1])
        weight = weight + standing[number]
    return weight if len(standing) == 1 else None


def may_be_put(standing, one, other):
    if one == other or one not in standing or other not in standing:
        return False
    heavier = max(standing[one], standing[other])
    return all([heavier <= standing[beside] for beside in standing if beside != one and beside != other])
