"""Which made rows the sites want."""

from speaklast.tables import rows_by_key


def wanted_rows(state, site):
    """The tuple of the rows that a site wants, cut to its columns, ascending by key."""
    net = state.wiring
    columns = net.known_site(site).columns
    found = {}
    for home in net.homes:
        for row in state.truths[home].rows:
            if site in sites_reached(net, home, row):
                found[net.table.key_of(row)] = net.table.cut(row, columns)
    return rows_by_key(found)


def sites_reached(net, home, row):
    """The dict of the sites that a row made at the home reaches."""
    values = dict(zip(net.table.columns, row))
    reached = {home: True}
    waiting = [home]
    while waiting:
        place = waiting.pop()
        for line in net.lines_out_of(place):
            is_told = place == home or not line.own
            if is_told and line.target not in reached and line.lets_through(values):
                reached[line.target] = True
                waiting.append(line.target)
    return reached
